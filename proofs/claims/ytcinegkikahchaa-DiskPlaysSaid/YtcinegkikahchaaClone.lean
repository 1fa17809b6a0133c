/-
  strings.Clone: the same text; only new memory.
-/
import Derived.Test.YtcinegkikahchaaChg
import Derived.Lib.BufferWrite
import Derived.Lib.UnsafeStr
namespace Go.Proofs.Ytcinegkikahchaa
open Go.RowKit
set_option linter.unusedVariables false
set_option maxRecDepth 100000

theorem setRow_size (w : World) (g : Nat) (cs : Array Value) : (w.setRow g cs).heap.size = w.heap.size := by simp [World.setRow]
theorem setRow_other (w : World) (g : Nat) (cs : Array Value) (b : Nat) (hb : b ≠ g) : (w.setRow g cs).heap[b]? = w.heap[b]? := by
  simp only [World.setRow, Array.getElem?_modify]
  rw [if_neg (fun e => hb e.symm)]
theorem setRow_same {w : World} {g : Nat} {cur : Array Value} {t : TypeId} {fz : Nat × Nat} (hg : w.heap[g]? = some (.cells cur t fz)) (cs : Array Value) : (w.setRow g cs).heap[g]? = some (.cells cs t fz) := by
  simp [World.setRow, Array.getElem?_modify, hg]

set_option maxHeartbeats 1000000 in
theorem litClone_any (s : ByteArray) (w : World) (hs : s.size ≤ 140737488355328) :
    Calls Try.prog 57 #[.string s] w fun e w' => e = .returned (.string s) ∧ Below w.heap.size w w' := by
  by_cases h0 : s.size = 0
  · have hs0 : s = ⟨#[]⟩ := by
      apply str_ext
      exact List.length_eq_zero_iff.1 (by rw [str_len]; exact h0)
    subst hs0
    go_enter Try.func57, Try.ntmps57
    go_wp2
    go_ret
    exact ⟨rfl, Below.refl _ _⟩
  · obtain ⟨w1, hmake, hby, hb1, hz1⟩ := make_bytes w w.heap.size s.size (Nat.le_refl _) hs
    have hrow := hby
    rcases hrow.2 with ⟨hv, _⟩ | ⟨g, cap, cur, hv, hBg, hg, hnc, hcm, hcs, htake⟩
    · simp at hv
    · have hg0 : g = w.heap.size := by
        simp only [Value.slice.injEq, Option.some.injEq, Addr.mk.injEq] at hv
        exact hv.1.1.symm
      have hcap : cap = s.size := by
        simp only [Value.slice.injEq] at hv
        have := hv.2.2
        simpa using this.symm
      subst hg0
      subst hcap
      have hcopy := Lib.run_copy_row_string (P := Try.prog) w1 66 9 3 5 w.heap.size 0 s.size s.size s cur 5 Try.underlying66 (by obtain ⟨i0, hi, hz, hsz, _⟩ := infoByte_parts; rw [hi]; simp [hsz]) hg (Nat.le_refl _) (by rw [hcs]; simp)
      have hnew : (cur.toList.take 0 ++ Lib.byteCells s.data.toList ++ cur.toList.drop (0 + s.size)).toArray = (Lib.byteCells s.data.toList).toArray := by
        have : cur.toList.length = s.size := by simpa using hcs
        rw [List.drop_of_length_le (by omega)]
        simp
      rw [hnew] at hcopy
      have hg2 := setRow_same hg (Lib.byteCells s.data.toList).toArray
      have hz2 := setRow_size w1 w.heap.size (Lib.byteCells s.data.toList).toArray
      have hb2 : Below w.heap.size w (w1.setRow w.heap.size (Lib.byteCells s.data.toList).toArray) := hb1.trans ⟨rfl, rfl, rfl, by rw [hz2]; exact Nat.le_refl _, fun k hk => setRow_other _ _ _ _ (by omega)⟩
      generalize w1.setRow w.heap.size (Lib.byteCells s.data.toList).toArray = w2 at *
      have hlen : (Lib.byteCells s.data.toList).length = s.size := by rw [Lib.byteCells_length, str_len]
      have hUS : (Builtin.unsafeString_ #[92, 3] 9 #[.pointer (some ⟨w.heap.size, 0, none⟩), .int .i64 s.size]).run Try.prog w2 = .ok (.string s) (w2.freeze ⟨w.heap.size, 0, none⟩ s.size) := by
        have := Lib.run_unsafeString_row (P := Try.prog) w2 92 3 9 5 Try.underlying92 cellsByte w.heap.size s.size (by simp [World.shape?, hg2, hlen]) s.data.toList (by intro e; apply h0; rw [← str_len, e]; rfl) (by rw [str_len]; exact Nat.le_refl _) (by rw [str_len]; omega) ?_
        · rw [str_len] at this; exact this
        · intro j x hx
          rw [show (⟨w.heap.size, 0, none⟩ : Addr).add j = ⟨w.heap.size, j, none⟩ by unfold Addr.add; split <;> simp_all, Lib.cell_of_heap hg2]
          simp [Lib.byteCells, hx]
      have hb3 := Lib.below_freeze hb2 (p := ⟨w.heap.size, 0, none⟩) (Nat.le_refl _) s.size
      have HB := hid hb3
      have hpos : 0 < s.size := by omega
      have hlt63 : s.size < 9223372036854775807 := by omega
      clear hb3 hb2 hb1 hz1 hz2 hg2 hg hby hrow hv hnew htake hcs hlen hcm hnc hBg h0
      go_enter Try.func57, Try.ntmps57
      go_wp2
      go_ret
      exact ⟨rfl, HB.out⟩
theorem clone_any (s : ByteArray) (w : World) (hs : s.size ≤ 140737488355328) :
    Calls Try.prog 47 #[.string s] w fun e w' => e = .returned (.string s) ∧ Below w.heap.size w w' := by
  go_enter Try.func47, Try.ntmps47
  go_wp2_with (go_at_call 57; (with_reducible refine (litClone_any s _ hs).mono ?_); rintro e w1 ⟨rfl, hb1⟩)
  go_ret
  exact ⟨rfl, hb1⟩
end Go.Proofs.Ytcinegkikahchaa
