import Derived.Test.YtpakolpmhmhkpaaGreatDoorSnAJ
/-
  LAYER 4 (snap), THE PROGRAM: unframe, frame.
-/
namespace Go.Proofs.YtpakolpmhmhkpaaGreatDoor
open Go.RowKit
set_option linter.unusedVariables false
set_option maxRecDepth 100000

def unfSRes (l : List UInt8) : Value := .tuple #[.string (mk (unframeS l).1), .string (mk (l.drop (unframeS l).2.1)), .int .i64 ((unframeS l).2.2 : Nat)]
set_option maxHeartbeats 4000000 in
theorem snUnframe_any (s : ByteArray) (w : World) (hs : s.size ≤ maxLen) (hT : Steps w) :
    Calls Tryz.prog 31 #[.string s] w fun e w' => e = .returned (unfSRes s.data.toList) ∧ Below w.heap.size w w' := by
  have C1 := unframe_any s w hs hT
  unfold unfrRes at C1
  unfold unfSRes
  have hsz : (unframe s.data.toList).2.1 ≤ s.size := by
    rcases unframe_cases s.data.toList with ⟨e, h, _⟩ | ⟨p, h, _, h3, _⟩
    · rw [h]; exact Nat.zero_le _
    · rw [h, ← str_len]; exact h3
  unfold maxLen at hs
  obtain ⟨p1, n1, e1, hu⟩ : ∃ p n e, unframe s.data.toList = (p, n, e) := ⟨_, _, _, rfl⟩
  have hS : unframeS s.data.toList = (p1, n1, if e1 = 10 then 8 else e1) := by unfold unframeS; rw [hu]
  rw [hu] at C1 hsz
  rw [hS]
  simp only at C1 hsz ⊢
  have HSl := fun wx => slice_l (s := s) (lo := (n1 : Int)) (l := s.data.toList.drop n1) (by omega) (by omega) (by simp) wx
  have HC := hid C1
  clear C1 hS hu
  generalize mk p1 = pb at *
  generalize mk (s.data.toList.drop n1) = rb at *
  have hI : (n1 : Int) ≤ (s.size : Int) := by omega
  by_cases h10 : e1 = 10
  · subst h10
    rw [if_pos rfl]
    go_enter Tryz.func31, Tryz.ntmps31
    go_wp2_with (go_at_call 54; (with_reducible refine HC.out.mono ?_); rintro e w1 ⟨rfl, hb⟩)
    go_quiet (fail)
    go_wp2
    go_ret3
    exact ⟨rfl, below_drew hb _⟩
  · rw [if_neg h10]
    have hq : ((e1 : Int) == 10) = false := by simp; omega
    clear h10
    go_enter Tryz.func31, Tryz.ntmps31
    go_wp2_with (go_at_call 54; (with_reducible refine HC.out.mono ?_); rintro e w1 ⟨rfl, hb⟩)
    go_quiet (fail)
    go_wp2
    go_ret3
    exact ⟨rfl, below_drew hb _⟩
end Go.Proofs.YtpakolpmhmhkpaaGreatDoor

