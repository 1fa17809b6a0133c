/-
  LAYER 5, the law AgendaLeaves: what its loops reckon, as lists.
-/
import Derived.Test.YtmjgkhjjnfoolaaAgTwo
namespace Go.Proofs.Ytmjgkhjjnfoolaa
open Go.RowKit Go.Maps
set_option linter.unusedVariables false
set_option maxRecDepth 100000

/-- What is there behind k drops. -/
def lvI (n : Nat) (dr : List Int) : List Nat := (List.range n).filter (fun i => decide ((i : Int) ∉ dr))
theorem lvI_nil (n : Nat) : lvI n [] = List.range n := by
  unfold lvI
  rw [List.filter_eq_self]
  intro i _; simp
theorem lvI_mem {n i : Nat} {dr : List Int} : i ∈ lvI n dr ↔ i < n ∧ (i : Int) ∉ dr := by simp [lvI]
theorem itms_filter (l : List Int) (P : It → Bool) (Q : Nat → Bool) (I : List Nat) (h : ∀ i ∈ I, P (itm l i) = Q i) : (itms l I).filter P = itms l (I.filter Q) := by
  unfold itms
  rw [List.filter_map]
  congr 1
  exact List.filter_congr (fun i hi => h i hi)
theorem lv_drop {l : List Int} {S : List It} {n : Nat} {dr : List Int} {d : Int} (h : S.Perm (itms l (lvI n dr))) : (delS d S).Perm (itms l (lvI n (dr ++ [d]))) := by
  refine (delS_perm h).trans ?_
  unfold delS
  rw [itms_filter l _ (fun i => decide ((i : Int) ≠ d)) _ (fun i _ => rfl)]
  unfold lvI
  rw [List.filter_filter]
  have : (fun i : Nat => decide ((i : Int) ≠ d) && decide ((i : Int) ∉ dr)) = (fun i : Nat => decide ((i : Int) ∉ dr ++ [d])) := by
    funext i
    simp only [List.mem_append, List.mem_singleton, not_or]
    by_cases h1 : (i : Int) ∈ dr <;> by_cases h2 : (i : Int) = d <;> simp [h1, h2]
  rw [this]
theorem lv_fnd {l : List Int} {S : List It} {n : Nat} {dr : List Int} (ho : AgOk S) (h : S.Perm (itms l (lvI n dr))) {i : Nat} (hi : i < n) : fndS (i : Int) S = if (i : Int) ∈ dr then none else some (itm l i) := by
  by_cases hm : (i : Int) ∈ dr
  · rw [if_pos hm]
    refine fndS_none (fun x hx => ?_)
    obtain ⟨j, hj, rfl⟩ := itms_mem.1 (h.mem_iff.1 hx)
    intro e
    have : (j : Int) = (i : Int) := e
    rw [← this] at hm
    exact (lvI_mem.1 hj).2 hm
  · rw [if_neg hm]
    exact fndS_some ho.ids (h.mem_iff.2 (itms_mem.2 ⟨i, lvI_mem.2 ⟨hi, hm⟩, rfl⟩)) rfl
/-- What is left of the first k: neither dropped nor due. -/
def lvJ (l : List Int) (dr : List Int) (now : Int) (k : Nat) : List Nat := (List.range k).filter (fun i => decide ((i : Int) ∉ dr) && decide (now < l.getD i 0))
theorem lvJ_mem {l dr : List Int} {now : Int} {k i : Nat} : i ∈ lvJ l dr now k ↔ i < k ∧ (i : Int) ∉ dr ∧ now < l.getD i 0 := by simp [lvJ]
theorem lvJ_yes {l dr : List Int} {now : Int} {k : Nat} (h1 : (k : Int) ∉ dr) (h2 : now < l.getD k 0) : lvJ l dr now (k + 1) = lvJ l dr now k ++ [k] := by
  unfold lvJ
  rw [List.range_succ, List.filter_append, List.filter_cons_of_pos (by rw [decide_eq_true h1, decide_eq_true h2]; rfl)]
  rfl
theorem lvJ_no {l dr : List Int} {now : Int} {k : Nat} (h : (k : Int) ∈ dr ∨ l.getD k 0 ≤ now) : lvJ l dr now (k + 1) = lvJ l dr now k := by
  unfold lvJ
  have : (decide ((k : Int) ∉ dr) && decide (now < l.getD k 0)) = false := by
    rcases h with h | h
    · rw [decide_eq_false (fun e => e h)]; rfl
    · rw [decide_eq_false (show ¬ now < l.getD k 0 by omega), Bool.and_false]
  rw [List.range_succ, List.filter_append, List.filter_cons_of_neg (by rw [this]; simp)]
  simp
theorem lvJ_len (l dr : List Int) (now : Int) (k : Nat) : (lvJ l dr now k).length ≤ k := by
  have := List.length_filter_le (fun i : Nat => decide ((i : Int) ∉ dr) && decide (now < l.getD i 0)) (List.range k)
  rw [List.length_range] at this
  exact this
theorem rest_filter {S : List It} (h : Srt S) (now : Int) : restS now S = S.filter (fun x => decide (now < x.1)) := by
  unfold restS
  induction S with
  | nil => rfl
  | cons x r ih =>
    obtain ⟨h1, h2⟩ := List.pairwise_cons.1 h
    by_cases hx : x.1 ≤ now
    · rw [List.dropWhile_cons_of_pos (by simpa using hx), List.filter_cons_of_neg (by simpa using hx), ih h2]
    · rw [List.dropWhile_cons_of_neg (by simpa using hx), List.filter_cons_of_pos (by simpa using hx), List.filter_eq_self.2]
      intro y hy
      have := bf_iff.1 (h1 y hy)
      simp; omega
theorem lv_rest {l : List Int} {S : List It} {dr : List Int} {now : Int} (ho : AgOk S) (h : S.Perm (itms l (lvI l.length dr))) : (restS now S).Perm (itms l (lvJ l dr now l.length)) := by
  rw [rest_filter ho.srt]
  refine (h.filter _).trans ?_
  rw [itms_filter l _ (fun i => decide (now < l.getD i 0)) _ (fun i _ => rfl)]
  unfold lvI lvJ
  rw [List.filter_filter]
  have : (fun i : Nat => decide (now < l.getD i 0) && decide ((i : Int) ∉ dr)) = (fun i : Nat => decide ((i : Int) ∉ dr) && decide (now < l.getD i 0)) := by
    funext i; exact Bool.and_comm _ _
  rw [this]
/-- What is told. -/
theorem lv_due {l : List Int} {S : List It} {dr : List Int} {now : Int} (h : S.Perm (itms l (lvI l.length dr))) {k : Nat} (hk : k < (dueS now S).length) : ∃ i, i < l.length ∧ (i : Int) ∉ dr ∧ ((dueS now S).map Prod.snd).getD k 0 = (i : Int) ∧ l.getD i 0 ≤ now := by
  have hm : (dueS now S)[k] ∈ dueS now S := List.getElem_mem hk
  have h1 : (dueS now S)[k].1 ≤ now := by
    have := List.all_takeWhile (p := fun x : It => decide (x.1 ≤ now)) (l := S)
    rw [List.all_eq_true] at this
    simpa using this _ hm
  have h2 : (dueS now S)[k] ∈ S := (List.takeWhile_sublist _).subset hm
  obtain ⟨i, hi, e⟩ := itms_mem.1 (h.mem_iff.1 h2)
  rw [← e] at h1
  exact ⟨i, (lvI_mem.1 hi).1, (lvI_mem.1 hi).2, by simp [List.getD, hk, ← e, itm], h1⟩
theorem lv_left {l : List Int} {R : List It} {dr : List Int} {now : Int} (ho : AgOk R) (h : R.Perm (itms l (lvJ l dr now l.length))) {j : Nat} (hj : j ∈ lvJ l dr now l.length) : fndS (j : Int) R = some (itm l j) :=
  fndS_some ho.ids (h.mem_iff.2 (itms_mem.2 ⟨j, hj, rfl⟩)) rfl
end Go.Proofs.Ytmjgkhjjnfoolaa
