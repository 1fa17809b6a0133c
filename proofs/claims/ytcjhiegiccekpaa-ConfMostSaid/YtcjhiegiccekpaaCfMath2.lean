/-
  LAYER 9 (conf): what the program computes by sorting: rows that rise, numbers in common, what is agreed: mathematics of lists.
-/
import Derived.Test.YtcjhiegiccekpaaCfMath
import Derived.Lib.SlicesCompact
namespace Go.Proofs.Ytcjhiegiccekpaa
set_option linter.unusedVariables false
set_option maxRecDepth 100000

def srtC (l : List Int) : List Int := l.mergeSort fun x y => decide (x ≤ y)
theorem srt_perm (l : List Int) : (srtC l).Perm l := List.mergeSort_perm l _
theorem srt_len (l : List Int) : (srtC l).length = l.length := (srt_perm l).length_eq
theorem srt_sorted (l : List Int) : (srtC l).Pairwise (· ≤ ·) := by
  have h := List.pairwise_mergeSort (le := fun x y : Int => decide (x ≤ y)) (by intro a b c; simp; omega) (by intro a b; simp; omega) l
  exact h.imp (fun h => by simpa using h)
theorem srt_mem {l : List Int} {x : Int} : x ∈ srtC l ↔ x ∈ l := (srt_perm l).mem_iff
theorem srt_contains (l : List Int) (x : Int) : (srtC l).contains x = hasC l x := by
  unfold hasC
  rw [Bool.eq_iff_iff, List.contains_iff_mem, srt_mem, decide_eq_true_eq]
/-! ### a row that rises is its sorted row, each once -/
theorem keeps_inc {zs : List Int} (h : ∀ j, j < zs.length → Lib.keeps zs.toArray j = true) (hs : zs.Pairwise (· ≤ ·)) : Inc zs := by
  unfold Inc
  rw [List.pairwise_iff_getElem] at hs ⊢
  intro i j hi hj hij
  have h1 := hs i j hi hj hij
  have h2 : zs[j - 1] ≠ zs[j] := by
    have := h j hj
    unfold Lib.keeps at this
    simp only [decide_eq_true_eq] at this
    rcases this with e | e
    · omega
    · intro e2
      apply e
      rw [getElem!_pos _ _ (by simpa using hj), getElem!_pos _ _ (by simp; omega)]
      simpa using e2.symm
  have h3 : zs[j - 1] ≤ zs[j] := hs (j - 1) j (by omega) hj (by omega)
  rcases Nat.lt_or_ge i (j - 1) with hlt | hge
  · have := hs i (j - 1) hi (by omega) hlt
    omega
  · have : i = j - 1 := by omega
    subst this
    omega
theorem compact_len_eq {zs : List Int} (h : (Lib.compact zs).length = zs.length) : ∀ j, j < zs.length → Lib.keeps zs.toArray j = true := by
  intro j hj
  unfold Lib.compact Lib.compactUpTo at h
  rw [List.length_map] at h
  have h2 : (List.range zs.length).filter (Lib.keeps zs.toArray) = List.range zs.length := List.filter_eq_self.2 (by
    have := List.length_filter_eq_length_iff.1 (h.trans (List.length_range).symm)
    exact this)
  exact List.filter_eq_self.1 h2 j (List.mem_range.2 hj)
theorem inc_keeps {zs : List Int} (h : Inc zs) : ∀ j, j < zs.length → Lib.keeps zs.toArray j = true := by
  intro j hj
  unfold Lib.keeps
  rcases Nat.eq_zero_or_pos j with e | e
  · simp [e]
  · have := (List.pairwise_iff_getElem.1 h) (j - 1) j (by omega) hj (by omega)
    simp only [decide_eq_true_eq]
    refine .inr ?_
    rw [getElem!_pos _ _ (by simpa using hj), getElem!_pos _ _ (by simp; omega)]
    simp
    omega
theorem srt_inc {l : List Int} (h : Inc l) : srtC l = l := by
  have h1 : l.Pairwise (fun x y => x ≤ y) := h.imp (fun h => by omega)
  exact List.mergeSort_of_pairwise (h1.imp (fun h => by simpa using h))
/-- What rising answers. -/
theorem rising_is (l : List Int) : (l == Lib.compact (srtC l)) = decide (Inc l) := by
  rw [Bool.eq_iff_iff, beq_iff_eq, decide_eq_true_eq]
  constructor
  · intro e
    have hl : (Lib.compact (srtC l)).length = (srtC l).length := by rw [← e, srt_len]
    have hk := compact_len_eq hl
    have hi := keeps_inc hk (srt_sorted l)
    have hc := Lib.compact_all (srtC l) hk
    rw [hc] at e
    rw [e]
    exact hi
  · intro h
    rw [srt_inc h, Lib.compact_all l (inc_keeps h)]
/-- Rising, from 1 to 9: the first and the last tell it. -/
theorem risingF_inc : ∀ (l : List Int) (b : Int), risingF b l = true ↔ Inc l ∧ (∀ x ∈ l, b < x) ∧ ∀ x ∈ l, x ≤ 9
  | [], b => by simp [risingF, Inc]
  | v :: r, b => by
    unfold risingF
    simp only [Bool.and_eq_true, decide_eq_true_eq]
    rw [risingF_inc r v]
    constructor
    · rintro ⟨⟨h1, h2⟩, h3, h4, h5⟩
      refine ⟨List.Pairwise.cons h4 h3, fun x hx => ?_, fun x hx => ?_⟩
      · rcases List.mem_cons.1 hx with e | e
        · omega
        · have := h4 x e; omega
      · rcases List.mem_cons.1 hx with e | e
        · omega
        · exact h5 x e
    · rintro ⟨h1, h2, h3⟩
      obtain ⟨h4, h5⟩ := List.pairwise_cons.1 h1
      exact ⟨⟨h2 v (List.mem_cons_self ..), h3 v (List.mem_cons_self ..)⟩, h5, h4, fun x hx => h3 x (List.mem_cons_of_mem _ hx)⟩
theorem rising_ends {l : List Int} (h0 : 0 < l.length) : risingF 0 l = (decide (Inc l) && decide (1 ≤ l.getD 0 0) && decide (l.getD (l.length - 1) 0 ≤ 9)) := by
  have e0 : l.getD 0 0 = l[0]'h0 := by simp [List.getD, h0]
  have e1 : l.getD (l.length - 1) 0 = l[l.length - 1]'(by omega) := by simp [List.getD, List.getElem?_eq_getElem (show l.length - 1 < l.length by omega)]
  rw [Bool.eq_iff_iff, risingF_inc, e0, e1]
  simp only [Bool.and_eq_true, decide_eq_true_eq]
  constructor
  · rintro ⟨h1, h2, h3⟩
    exact ⟨⟨h1, by have := h2 _ (List.getElem_mem h0); omega⟩, h3 _ (List.getElem_mem _)⟩
  · rintro ⟨⟨h1, h2⟩, h3⟩
    have hs := List.pairwise_iff_getElem.1 h1
    refine ⟨h1, fun x hx => ?_, fun x hx => ?_⟩
    · obtain ⟨i, hi, rfl⟩ := List.getElem_of_mem hx
      rcases Nat.eq_zero_or_pos i with e | e
      · subst e; omega
      · have := hs 0 i h0 hi e; omega
    · obtain ⟨i, hi, rfl⟩ := List.getElem_of_mem hx
      rcases Nat.lt_or_ge i (l.length - 1) with e | e
      · have := hs i (l.length - 1) hi (by omega) e; omega
      · have : i = l.length - 1 := by omega
        subst this; exact h3
/-! ### what is agreed -/
theorem countP_ge_sorted {s : List Int} (hs : s.Pairwise (· ≤ ·)) {k : Nat} (hk : k < s.length) : s.length - k ≤ geC s s[k] := by
  unfold geC
  have h1 : s.countP (fun y => decide (s[k] ≤ y)) = (s.take k).countP (fun y => decide (s[k] ≤ y)) + (s.drop k).countP (fun y => decide (s[k] ≤ y)) := by
    rw [← List.countP_append, List.take_append_drop]
  have h2 : (s.drop k).countP (fun y => decide (s[k] ≤ y)) = (s.drop k).length := List.countP_eq_length.2 (fun x hx => by
    obtain ⟨i, hi, rfl⟩ := List.getElem_of_mem hx
    rw [List.getElem_drop]
    rcases Nat.eq_zero_or_pos i with e | e
    · subst e; simp
    · have := (List.pairwise_iff_getElem.1 hs) k (k + i) hk (by rw [List.length_drop] at hi; omega) (by omega)
      simpa using this)
  rw [List.length_drop] at h2
  omega
theorem countP_gt_sorted {s : List Int} (hs : s.Pairwise (· ≤ ·)) {k : Nat} (hk : k < s.length) : gtC s s[k] ≤ s.length - (k + 1) := by
  unfold gtC
  have h1 : s.countP (fun y => decide (s[k] < y)) = (s.take (k + 1)).countP (fun y => decide (s[k] < y)) + (s.drop (k + 1)).countP (fun y => decide (s[k] < y)) := by
    rw [← List.countP_append, List.take_append_drop]
  have h2 : (s.take (k + 1)).countP (fun y => decide (s[k] < y)) = 0 := List.countP_eq_zero.2 (fun x hx => by
    obtain ⟨i, hi, rfl⟩ := List.getElem_of_mem hx
    rw [List.length_take] at hi
    rw [List.getElem_take]
    rcases Nat.lt_or_ge i k with e | e
    · have := (List.pairwise_iff_getElem.1 hs) i k (by omega) hk e
      simp; omega
    · have : i = k := by omega
      subst this; simp)
  have h3 := List.countP_le_length (p := fun y => decide (s[k] < y)) (l := s.drop (k + 1))
  rw [List.length_drop] at h3
  omega
theorem agreed_sorted {l : List Int} (h0 : 0 < l.length) : agreedC l = (srtC l).getD ((l.length - 1) / 2) 0 := by
  have hl := srt_len l
  have hk : (l.length - 1) / 2 < (srtC l).length := by omega
  rw [show (srtC l).getD ((l.length - 1) / 2) 0 = (srtC l)[(l.length - 1) / 2]'hk by simp [List.getD, hk]]
  have h1 := countP_ge_sorted (srt_sorted l) hk
  have h2 := countP_gt_sorted (srt_sorted l) hk
  have hp := srt_perm l
  refine agreed_eq ⟨srt_mem.1 (List.getElem_mem hk), ?_, ?_⟩
  · have : geC (srtC l) (srtC l)[(l.length - 1) / 2] = geC l (srtC l)[(l.length - 1) / 2] := hp.countP_eq _
    omega
  · have : gtC (srtC l) (srtC l)[(l.length - 1) / 2] = gtC l (srtC l)[(l.length - 1) / 2] := hp.countP_eq _
    omega
/-! ### a number put in -/
theorem with_find {l : List Int} {x : Int} (hx : x ∉ l) {k : Nat} (hk : k ≤ l.length) (h1 : ∀ j, (hj : j < k) → l[j]'(by omega) ≤ x) (h2 : ∀ h : k < l.length, x < l[k]) : withC l x = l.take k ++ x :: l.drop k := by
  unfold withC
  rw [if_neg hx]
  have ht : l.takeWhile (fun y => decide (y ≤ x)) = l.take k := by
    conv => lhs; rw [← List.take_append_drop k l]
    rw [List.takeWhile_append_of_pos (fun y hy => by
      obtain ⟨i, hi, rfl⟩ := List.getElem_of_mem hy
      rw [List.length_take] at hi
      rw [List.getElem_take]
      simpa using h1 i (by omega))]
    rcases Nat.lt_or_ge k l.length with e | e
    · rw [List.drop_eq_getElem_cons e, List.takeWhile_cons, if_neg (by have := h2 e; simp; omega), List.append_nil]
    · rw [List.drop_of_length_le e]; simp
  have hd : l.dropWhile (fun y => decide (y ≤ x)) = l.drop k := by
    have h3 := List.takeWhile_append_dropWhile (p := fun y => decide (y ≤ x)) (l := l)
    rw [ht] at h3
    have h4 := List.take_append_drop k l
    exact List.append_cancel_left (h3.trans h4.symm)
  rw [ht, hd]
end Go.Proofs.Ytcjhiegiccekpaa
