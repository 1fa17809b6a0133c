/-
  LAYER 2 (disk): List, by the library's own slices.Sorted and maps.Keys.
-/
import Derived.Test.YtcinegkikahchaaDkB
namespace Go.Proofs.Ytcinegkikahchaa
open Go.RowKit Go.Maps Go.Sort Go.Shelf
set_option linter.unusedVariables false
set_option maxRecDepth 100000

theorem sortsA (m : Nat) : AnyZ.SortsIn Try.prog Try.sortedA_ren Fence.wide m :=
  ⟨fun blk off cap ss W hH hblk hsz => callsIn_wide.2 (AnyM.slices_Sort_string Try.sortA blk off cap ss W hH hblk hsz),
   fun p cap W => callsIn_wide.2 (AnyM.slices_Sort_string_none Try.sortA p cap W)⟩

theorem sorted_eq {l m : List (List UInt8)} (hp : l.Perm m) (hs : m.Pairwise (· < ·)) : l.mergeSort (fun x y => decide (x ≤ y)) = m := by
  rw [show l.mergeSort (fun x y => decide (x ≤ y)) = m.mergeSort (fun x y => decide (x ≤ y)) from mergeSort_of_perm hp]
  apply List.mergeSort_of_pairwise
  refine hs.imp fun {x y} h => ?_
  simp only [decide_eq_true_eq]
  exact List.not_lt.1 (blt_asymm h)

/-- The names as they lie in memory. -/
def NamesAt (w : World) (B : Nat) (v : Value) (l : List (List UInt8)) : Prop := w.ownsRow B 9 1 v l.length (l.map encStr)

set_option maxHeartbeats 1000000 in
theorem list_any {w : World} {S : Nat → Prop} {a mb : Nat} {F : List Fl} {s : Dk} (h : DiskRep w S a mb F s) : Calls Try.prog 21 #[.pointer (some ⟨a, 0, none⟩)] w fun e w' =>
    ∃ v, e = .returned v ∧ NamesAt w' w.heap.size v (s.L.map AF.name) ∧ Below w.heap.size w w' := by
  obtain ⟨left, hw, _⟩ := h.head
  have c1 := hw.cell 1
  simp at c1
  have hown := h.map
  have hmany : F.length ≤ 40 := by rw [h.len]; exact h.ok.many
  have hnames : s.L.map AF.name = F.map Fl.name := by rw [h.abs, List.map_map]; rfl
  have hsorted : (F.map Fl.name).Pairwise (· < ·) := List.pairwise_map.2 h.rise
  rw [hnames]
  have hsz : Maps.size (.map (entOf F)) = F.length := size_ent F
  have hks : strKeys (.map (entOf F)) = F.map Fl.name := strKeys_ent F
  clear h hw
  refine (callsIn_wide (n := 6)).1 ?_
  have hbl := hown.lt
  have hseq : SeqGives Fence.wide 2 Try.prog 56 #[.pointer (some ⟨w.heap.size, 0, none⟩)] encStr (fun ss => ss.Perm (strKeys (.map (entOf F)))) (Maps.size (.map (entOf F))) (w.alloc (.cells #[.map (some mb)] 61)) :=
    AnyZ.keys_gives (ρ := Try.keysA_ren) { Try.keysA with } Fence.wide _ trivial rfl (by omega) w.heap.size mb F.length _ _ (by simp) (by simp) (by
      obtain ⟨es, clock, hb, Ft, hs, hD⟩ := hown
      exact ⟨es, clock, (Below.heap_alloc _ _ mb hbl).trans hb, Ft, hs, hD⟩)
  have cK : ∀ mb W, CallsIn Fence.wide 5 Try.prog 40 #[.map mb] W fun e w' => e = .returned (.func (.func 56) #[] #[.pointer (some ⟨W.heap.size, 0, none⟩)]) ∧ w' = W.alloc (.cells #[.map mb] 61) := fun mb W => AnyZ.keys_in Try.keysA Fence.wide 5 trivial rfl mb W
  have cS := AnyZ.sorted_in Try.sortedA Fence.wide 5 trivial trivial trivial trivial rfl (by omega) (sortsA _) (enters_of Try.func55 (by kernel_rfl) rfl) 56 #[.pointer (some ⟨w.heap.size, 0, none⟩)] trivial (enters_of Try.func56 (by kernel_rfl) rfl) _ _ (by rw [hsz]; unfold maxLen; omega) (by rw [hsz]; omega) _ hseq
  change CallsIn _ _ Try.prog 39 _ _ _ at cS
  have hfK : Fence.wide.fn 40 := trivial
  have hfS : Fence.wide.fn 39 := trivial
  have hks' := hid hks
  have hsz' := hid hsz
  have hs' := hid hsorted
  clear hks hsz hsorted hseq hnames
  refine callsIn_of_wp Try.func21 rfl trivial ?_ rfl
  simp only [Try.ntmps21, List.size_toArray, List.length_cons, List.length_nil, Nat.reduceAdd, Nat.reduceSub, Array.replicate_succ, Array.replicate_zero, List.push_toArray, List.append_toArray, List.nil_append, List.cons_append]
  gi_wp2_with (first
    | (gi_at_call 40; refine (cK _ _).mono ?_; rintro e w' ⟨rfl, rfl⟩)
    | (gi_at_call 39; refine cS.mono ?_; rintro e w' ⟨v, ss, rfl, hS, hrow, hnil, hb⟩))
  go_ret
  refine ⟨v, rfl, ?_, ((Below.refl _ w).alloc (Nat.le_refl _) _).trans (hb.mono (by simp))⟩
  rw [hks'.out] at hS
  rw [sorted_eq hS hs'.out, hS.length_eq] at hrow
  unfold NamesAt
  exact ownsRow_base_a hrow (by simp)
end Go.Proofs.Ytcinegkikahchaa
