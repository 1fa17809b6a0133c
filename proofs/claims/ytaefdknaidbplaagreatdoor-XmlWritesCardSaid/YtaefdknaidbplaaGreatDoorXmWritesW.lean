/-
  LAYER 11, the law XmlWrites: its walk.
-/
import Derived.Test.YtaefdknaidbplaaGreatDoorXmRfR
import Derived.Test.YtaefdknaidbplaaGreatDoorXmBackW
namespace Go.Proofs.YtaefdknaidbplaaGreatDoor
open Go.RowKit
set_option linter.unusedVariables false
set_option maxRecDepth 100000

set_option maxHeartbeats 16000000 in
theorem xmlWrites_any {w : World} (hG : Gb w.heap.size w) {v : Value} {L : List TkX} (hT : TokAt w v L) (s : ByteArray) : Calls Tryz.prog 4 #[v, .string s] w fun e w' => e = .returned (.bool true) ∧ Below w.heap.size w w' := by
  have HS := hid (shown_any hG)
  have HA := hid (fun (wx : World) (hb : Below w.heap.size w wx) => as_all (hT.below hb))
  have KW := hid (fun (h1 : (writeX L).length ≤ 4900000) (h2 : L.length ≤ 1000000) (h3 : ∀ t ∈ L, t.as.length ≤ 1000000) (wx : World) (hb : Below w.heap.size w wx) => kWrite hG h1 h2 h3 (hT.below hb) hb)
  have KE := hid (fun (h : s.size ≤ 800000) (wx : World) (hb : Below w.heap.size w wx) => kEscape hG s h _ rfl wx hb)
  clear hG hT
  go_enter Tryz.func4, Tryz.ntmps4
  go_wp2_with (first
    | (go_at_call 5; (with_reducible refine HS.out.mono ?_); rintro e w1 ⟨rfl, hb1⟩)
    | (go_at_call 9; (with_reducible refine (HA.out _ hb1).mono ?_)))
  rintro e w2 ⟨hb2, rfl | ⟨a5, c5, rfl, k5, l5, m5⟩⟩
  · go_wp2
    go_ret
    exact ⟨rfl, hb1.trans (hb2.mono hb1.size)⟩
  · have hbb := hb1.trans (hb2.mono hb1.size)
    by_cases hl : 3000 < s.size
    · have hlI : (3000 : Int) < (s.size : Int) := by omega
      clear k5 m5
      go_wp2
      go_ret
      exact ⟨rfl, hbb⟩
    · have hlI : ¬ (3000 : Int) < (s.size : Int) := by omega
      have hwl := sm_write l5 m5
      have H1 := hid (KW.out (by omega) (by omega) (fun t ht => by have := (m5 t ht).la; omega) w2 hbb)
      have H2 := hid (fun (wx : World) (hb : Below w2.heap.size w2 wx) => refWrite_any (k5.below hb) l5 m5)
      have H3 := hid (KE.out (by omega))
      have H4 := hid (fun (wx : World) => refEscape_any (w := wx) s (by omega))
      have q1 : ((mk (writeX L)).toList == (mk (writeX L)).toList) = true := beq_self_eq_true _
      have q2 : ((mk (escX s.data.toList)).toList == (mk (escX s.data.toList)).toList) = true := beq_self_eq_true _
      clear k5 m5 hwl
      go_wp2_with (first
        | (go_at_call 10; (with_reducible refine H1.out.mono ?_); rintro e w3 ⟨rfl, hb3, hbb3⟩)
        | (go_at_call 11; (with_reducible refine (H2.out _ hbb3).mono ?_); rintro e w4 ⟨rfl, hb4⟩; (have hb44 := hb3.trans (hb4.mono hb3.size)))
        | (go_at_call 12; (with_reducible refine (H3.out _ hb44).mono ?_); rintro e w5 ⟨rfl, hb5, _⟩)
        | (go_at_call 13; (with_reducible refine (H4.out _).mono ?_); rintro e w6 ⟨rfl, hb6⟩))
      go_ret
      exact ⟨rfl, hb5.trans (hb6.mono hb5.size)⟩
end Go.Proofs.YtaefdknaidbplaaGreatDoor
