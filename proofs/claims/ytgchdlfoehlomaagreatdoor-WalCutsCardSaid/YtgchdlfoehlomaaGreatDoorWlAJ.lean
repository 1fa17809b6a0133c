import Derived.Test.YtgchdlfoehlomaaGreatDoorMq0J
/-
  LAYER 3 (wal): records written: what fits, records of numbers.
-/
namespace Go.Proofs.YtgchdlfoehlomaaGreatDoor
open Go.RowKit
set_option linter.unusedVariables false
set_option maxRecDepth 100000

theorem hardFits_any (h : Hd) (w : World) : Calls Tryz.prog 47 #[.agg #[.int .i64 h.term, .int .i64 h.vote]] w fun e w' => e = .returned (.bool (hdB h)) ∧ Below w.heap.size w w' := by
  have hb : Below w.heap.size w (w.alloc (.cells #[.int .i64 h.term, .int .i64 h.vote] 37)) := Below.alloc (Below.refl _ _) (Nat.le_refl _) _
  have hq : hdB h = decide (0 ≤ h.term ∧ 0 ≤ h.vote) := rfl
  obtain ⟨t, v⟩ := h
  simp only at hb hq ⊢
  by_cases h1 : 0 ≤ t
  · by_cases h2 : 0 ≤ v
    · rw [hq, show decide (0 ≤ t ∧ 0 ≤ v) = true by simp; omega]
      go_enter Tryz.func47, Tryz.ntmps47
      go_wp2
      go_ret
      exact ⟨rfl, hb⟩
    · rw [hq, show decide (0 ≤ t ∧ 0 ≤ v) = false by simp; omega]
      go_enter Tryz.func47, Tryz.ntmps47
      go_wp2
      go_ret
      exact ⟨rfl, hb⟩
  · rw [hq, show decide (0 ≤ t ∧ 0 ≤ v) = false by simp; omega]
    go_enter Tryz.func47, Tryz.ntmps47
    go_wp2
    go_ret
    exact ⟨rfl, hb⟩
theorem entryFits_any (x : En) (d : ByteArray) (w : World) : Calls Tryz.prog 80 #[.agg #[.int .i64 x.idx, .int .i64 x.term, .int .i64 x.kind, .string d]] w fun e w' => e = .returned (.bool (entB x)) ∧ Below w.heap.size w w' := by
  have hb : Below w.heap.size w (w.alloc (.cells #[.int .i64 x.idx, .int .i64 x.term, .int .i64 x.kind, .string d] 57)) := Below.alloc (Below.refl _ _) (Nat.le_refl _) _
  have hq : entB x = decide (1 ≤ x.idx ∧ 0 ≤ x.term ∧ 1 ≤ x.kind ∧ x.kind ≤ 3) := rfl
  obtain ⟨i, t, k, dd⟩ := x
  simp only at hb hq ⊢
  by_cases h1 : 1 ≤ i
  · by_cases h2 : 0 ≤ t
    · by_cases h3 : 1 ≤ k
      · by_cases h4 : k ≤ 3
        · rw [hq, show decide (1 ≤ i ∧ 0 ≤ t ∧ 1 ≤ k ∧ k ≤ 3) = true by simp; omega]
          clear hq
          go_enter Tryz.func80, Tryz.ntmps80
          go_wp2
          go_ret
          exact ⟨rfl, hb⟩
        · rw [hq, show decide (1 ≤ i ∧ 0 ≤ t ∧ 1 ≤ k ∧ k ≤ 3) = false by simp; omega]
          clear hq
          go_enter Tryz.func80, Tryz.ntmps80
          go_wp2
          go_ret
          exact ⟨rfl, hb⟩
      · rw [hq, show decide (1 ≤ i ∧ 0 ≤ t ∧ 1 ≤ k ∧ k ≤ 3) = false by simp; omega]
        clear hq
        go_enter Tryz.func80, Tryz.ntmps80
        go_wp2
        go_ret
        exact ⟨rfl, hb⟩
    · rw [hq, show decide (1 ≤ i ∧ 0 ≤ t ∧ 1 ≤ k ∧ k ≤ 3) = false by simp; omega]
      clear hq
      go_enter Tryz.func80, Tryz.ntmps80
      go_wp2
      go_ret
      exact ⟨rfl, hb⟩
  · rw [hq, show decide (1 ≤ i ∧ 0 ≤ t ∧ 1 ≤ k ∧ k ≤ 3) = false by simp; omega]
    clear hq
    go_enter Tryz.func80, Tryz.ntmps80
    go_wp2
    go_ret
    exact ⟨rfl, hb⟩

theorem numbers_any (v : Value) (xs : List Int) (w : World) {B : Nat} (hg : Glob w B) (hB : B ≤ w.heap.size) (hv : IntsAt w w.heap.size v xs) (hx : ∀ n ∈ xs, I64 n) (hl : xs.length ≤ 100) :
    Calls Tryz.prog 66 #[v] w fun e w' => e = .returned (.string (mk (frameL (encs xs)))) ∧ Below w.heap.size w w' := by
  have hel := encs_length xs hx
  have HI := hid (int_any v xs w hv hx (by omega))
  have HF := hid (fun wx (hb : Below w.heap.size w wx) => frame_any (mk (encs xs)) wx (by rw [mk_size]; omega) (hg.below hb hB).steps (by have := hg.hsteps; have := hb.size; omega))
  rw [mk_data] at HF
  obtain ⟨a, cap, rfl, _⟩ := hv
  change Hid (Calls _ _ _ w fun e w' => e = .returned (.string (mk (encs xs))) ∧ _) at HI
  clear hg hel
  generalize mk (encs xs) = p at *
  generalize mk (frameL (encs xs)) = f at *
  go_enter Tryz.func66, Tryz.ntmps66
  go_wp2_with (first | (go_at_call 82; (with_reducible refine HI.out.mono ?_); rintro e w1 ⟨rfl, hb⟩) | (go_at_call 81; (with_reducible refine (HF.out _ hb).mono ?_); rintro e w2 ⟨rfl, hb2⟩))
  go_ret
  exact ⟨rfl, hb.trans (hb2.mono hb.size)⟩
/-- A slice of ints that a call has just laid. -/
theorem ints_new (w : World) (xs : List Int) (T : TypeId) : IntsAt (w.alloc (.cells (xs.map (Value.int .i64)).toArray T)) (w.alloc (.cells (xs.map (Value.int .i64)).toArray T)).heap.size (.slice (some ⟨w.heap.size, 0, none⟩) xs.length xs.length) xs := by
  refine ⟨_, _, rfl, fun _ => ⟨w.heap.size, 0, rfl, by simp, fun j x hj => ?_⟩⟩
  rw [Nat.zero_add, own.cell (own.new w _ T) j]
  simp [hj]
theorem hardRec_any (h : Hd) (w : World) {B : Nat} (hg : Glob w B) (hB : B ≤ w.heap.size) (ht : I64 h.term) (hv : I64 h.vote) :
    Calls Tryz.prog 36 #[.agg #[.int .i64 h.term, .int .i64 h.vote]] w fun e w' => e = .returned (.string (mk (rcL (.hard h)))) ∧ Below w.heap.size w w' := by
  have hb1 : Below w.heap.size w (w.alloc (.cells #[.int .i64 h.term, .int .i64 h.vote] 37)) := Below.alloc (Below.refl _ _) (Nat.le_refl _) _
  have hb2 : Below w.heap.size w ((w.alloc (.cells #[.int .i64 h.term, .int .i64 h.vote] 37)).alloc (.cells #[.int .i64 1, .int .i64 h.term, .int .i64 h.vote] 3)) := Below.alloc hb1 (by simp) _
  have HN := hid (numbers_any _ [1, h.term, h.vote] _ (hg.below hb2 hB) (by have := hb2.size; omega) (ints_new (w.alloc (.cells #[.int .i64 h.term, .int .i64 h.vote] 37)) [1, h.term, h.vote] 3) (by simp [ht, hv]; exact ⟨by omega, by omega⟩) (by simp))
  have hz : (w.alloc (.cells #[.int .i64 h.term, .int .i64 h.vote] 37)).heap.size = w.heap.size + 1 := by simp
  rw [hz] at HN
  change Hid (Calls _ _ #[.slice (some ⟨w.heap.size + 1, 0, none⟩) 3 3] ((w.alloc (.cells #[.int .i64 h.term, .int .i64 h.vote] 37)).alloc (.cells #[.int .i64 1, .int .i64 h.term, .int .i64 h.vote] 3)) fun e w' => e = .returned (.string (mk (rcL (.hard h)))) ∧ _) at HN
  clear hg ht hv hz
  generalize mk (rcL (.hard h)) = f at *
  obtain ⟨t, v⟩ := h
  simp only at *
  go_enter Tryz.func36, Tryz.ntmps36
  go_wp2_with (go_at_call 66; (with_reducible refine HN.out.mono ?_); rintro e w1 ⟨rfl, hb⟩)
  go_ret
  exact ⟨rfl, hb2.trans (hb.mono hb2.size)⟩
theorem resetRec_any (w : World) {B : Nat} (hg : Glob w B) (hB : B ≤ w.heap.size) :
    Calls Tryz.prog 51 #[] w fun e w' => e = .returned (.string (mk (rcL .reset))) ∧ Below w.heap.size w w' := by
  have hb2 : Below w.heap.size w (w.alloc (.cells #[.int .i64 3] 3)) := Below.alloc (Below.refl _ _) (Nat.le_refl _) _
  have HN := hid (numbers_any _ [3] _ (hg.below hb2 hB) (by have := hb2.size; omega) (ints_new w [3] 3) (by simp; exact ⟨by omega, by omega⟩) (by simp))
  change Hid (Calls _ _ #[.slice (some ⟨w.heap.size, 0, none⟩) 1 1] (w.alloc (.cells #[.int .i64 3] 3)) fun e w' => e = .returned (.string (mk (rcL .reset))) ∧ _) at HN
  clear hg
  generalize mk (rcL .reset) = f at *
  go_enter Tryz.func51, Tryz.ntmps51
  go_wp2_with (go_at_call 66; (with_reducible refine HN.out.mono ?_); rintro e w1 ⟨rfl, hb⟩)
  go_ret
  exact ⟨rfl, hb2.trans (hb.mono hb2.size)⟩
end Go.Proofs.YtgchdlfoehlomaaGreatDoor

