/-
  LAYER 11, the law XmlReads: its walk.
-/
import Derived.Test.YtaefdknaidbplaaGreatDoorXmRd2
import Derived.Test.YtaefdknaidbplaaGreatDoorXmBackW
namespace Go.Proofs.YtaefdknaidbplaaGreatDoor
open Go.RowKit
set_option linter.unusedVariables false
set_option maxRecDepth 100000

theorem readR_small (s : List UInt8) (h : s.length ≤ 30000) : (readR s).1.length ≤ 1000000 ∧ ∀ t ∈ (readR s).1, t.as.length ≤ 1000000 := by
  by_cases hl : 20000 < s.length
  · have : readR s = ([], 10, 0) := by unfold readR; rw [if_pos hl]
    rw [this]
    exact ⟨by simp, fun t h => by simp at h⟩
  · rcases readR_cases (l := s) (by omega) with ⟨L, n, h1, h2⟩ | ⟨n, h1, h2⟩
    · rw [h2]
      have w1 := read_wl h1
      have w2 := read_few' h1
      exact ⟨by simp only; omega, fun t ht => by have := read_ats h1 ht; omega⟩
    · rw [h2]
      exact ⟨by simp, fun t h => by simp at h⟩
set_option maxHeartbeats 16000000 in
theorem xmlReads_any {w : World} (hG : Gb w.heap.size w) (s : ByteArray) : Calls Tryz.prog 3 #[.string s] w fun e w' => e = .returned (.bool true) ∧ Below w.heap.size w w' := by
  have HS := hid (shown_any hG)
  by_cases hl : 21000 < s.size
  · have hlI : (21000 : Int) < (s.size : Int) := by omega
    clear hG
    go_enter Tryz.func3, Tryz.ntmps3
    go_wp2_with (go_at_call 5; (with_reducible refine HS.out.mono ?_); rintro e w1 ⟨rfl, hb1⟩)
    go_ret
    exact ⟨rfl, hb1⟩
  have hlI : ¬ (21000 : Int) < (s.size : Int) := by omega
  have hsl : s.data.toList.length = s.size := str_len s
  obtain ⟨hs1, hs2⟩ := readR_small s.data.toList (by omega)
  have R1 := hid (kRead hG s (by omega) _ rfl)
  have hr := fun wx => refRead_any s.data.toList (by omega) wx
  rw [mk_of] at hr
  have R2 := hid hr
  generalize readR s.data.toList = R at *
  obtain ⟨L, er, at0⟩ := R
  unfold RfPost at R2
  simp only at R1 R2 hs1 hs2
  have q1 : (er == er) = true := beq_self_eq_true _
  have q2 : (at0 == at0) = true := beq_self_eq_true _
  have HS1 := hid hs1
  have HS2 := hid hs2
  clear hG hr hs1 hs2 hsl
  go_enter Tryz.func3, Tryz.ntmps3
  go_wp2_with (first
    | (go_at_call 5; (with_reducible refine HS.out.mono ?_); rintro e w1 ⟨rfl, hb1⟩)
    | (go_at_call 6; (with_reducible refine (R1.out _ hb1).mono ?_); rintro e w2 ⟨a2, c2, rfl, t2, hb2, _⟩)
    | (go_at_call 7; (with_reducible refine (R2.out _).mono ?_); rintro e w3 ⟨a3, c3, rfl, t3, hb3⟩; (have HA := hid (alike_same (t2.below hb3) t3 HS1.out HS2.out)); (clear t2 t3))
    | (go_at_call 8; (with_reducible refine HA.out.mono ?_); rintro e w4 ⟨rfl, hb4⟩))
  go_ret
  exact ⟨rfl, hb2.trans ((hb3.trans (hb4.mono hb3.size)).mono hb2.size)⟩
end Go.Proofs.YtaefdknaidbplaaGreatDoor
