/-
  LAYER 7 (msg): the laws' own helpers: same (of one message, twice), small.
-/
import Derived.Test.YtppjojjejabaeaaMsLaw
import Derived.Test.YtppjojjejabaeaaMsRefQ
namespace Go.Proofs.Ytppjojjejabaeaa
open Go.RowKit
set_option linter.unusedVariables false
set_option maxRecDepth 100000

theorem lapp_cons {α : Type} (a : α) (l m : List α) : List.append (a :: l) m = a :: List.append l m := rfl
theorem lapp_nil {α : Type} (m : List α) : List.append [] m = m := rfl
set_option maxHeartbeats 8000000 in
theorem same_same {w : World} (m : Ms) (e1 v1 e2 v2 : Value) (h1 : MsAt w m e1 v1) (h2 : MsAt w m e2 v2) (hel : m.ents.length ≤ maxLen) (hvl : m.vot.length ≤ maxLen) :
    Calls Try.prog 20 #[msV m e1 v1, msV m e2 v2] w (BoolPost' w true) := by
  have hbB : Below w.heap.size w ((w.alloc (.cells (msCells m e1 v1) 27)).alloc (.cells (msCells m e2 v2) 27)) := ((Below.refl _ _).alloc (Nat.le_refl _) _).alloc (by simp) _
  obtain ⟨wB, hwB⟩ : ∃ wB, (w.alloc (.cells (msCells m e1 v1) 27)).alloc (.cells (msCells m e2 v2) 27) = wB := ⟨_, rfl⟩
  have z1 : (w.alloc (.cells (msCells m e1 v1) 27)).heap.size = w.heap.size + 1 := by simp
  have o1 : own wB w.heap.size (msCells m e1 v1) 27 := by rw [← hwB]; exact own.same (own.new w _ _) (Below.heap_alloc _ _ _ (by omega))
  have o2 : own wB (w.heap.size + 1) (msCells m e2 v2) 27 := by rw [← hwB, ← z1]; exact own.new _ _ _
  rw [hwB] at hbB
  have a1 := h1.below hbB
  have a2 := h2.below hbB
  have HSi := hid (fun wx (h : Below wB.heap.size wB wx) => sameInts_same (a1.vot.below h) (a2.vot.below h) hvl)
  obtain ⟨ea1, ec1, rfl, hea1⟩ := ents_at a1.ents
  obtain ⟨ea2, ec2, rfl, hea2⟩ := ents_at a2.ents
  obtain ⟨va1, vc1, rfl, _⟩ := nums_at a1.vot
  obtain ⟨va2, vc2, rfl, _⟩ := nums_at a2.vot
  have HB1 := hid (fun wx (h : Below wB.heap.size wB wx) => msBox_of (o1.same (h.block _ o1.lt)))
  have HB2 := hid (fun wx (h : Below wB.heap.size wB wx) => msBox_of (o2.same (h.block _ o2.lt)))
  have HE1 := hid hea1
  have HE2 := hid hea2
  have HPoss : Hid (∀ wx, Below wB.heap.size wB wx → Below w.heap.size w wx) := hid (fun wx h => hbB.trans (h.mono (by rw [← hwB]; simp; omega)))
  unfold maxLen at hel
  clear h1 h2 a1 a2 hea1 hea2 o1 o2 hbB z1 hvl
  obtain ⟨x0, x1, x2, x3, x4, x5, x6, x7, x8, x9, x10, x11, x12, x13⟩ := HB1.out _ (Below.refl _ wB)
  obtain ⟨y0, y1, y2, y3, y4, y5, y6, y7, y8, y9, y10, y11, y12, y13⟩ := HB2.out _ (Below.refl _ wB)
  have HW := hid hwB
  have qd : (m.dt.toList == m.dt.toList) = true := beq_self_eq_true _
  have qb : (m.bd.toList == m.bd.toList) = true := beq_self_eq_true _
  unfold msV
  unfold msCells at *
  go_enter Try.func20, Try.ntmps20
  go_wp2
  clear hwB x0 x1 x2 x3 x4 x5 x6 x7 x8 x9 x10 x11 x12 x13 y0 y1 y2 y3 y4 y5 y6 y7 y8 y9 y10 y11 y12 y13
  go_loopw [5] (SiRel wB m.ents.length) (fun i _ => m.ents.length - (intOf i).toNat)
  case atStart => exact ⟨0, Nat.zero_le _, rfl, Below.refl _ _⟩
  case round =>
    obtain ⟨k, hk, rfl, hbw⟩ := hrel
    have x8 := (HB1.out _ hbw).c8
    have y8 := (HB2.out _ hbw).c8
    by_cases hkn : k < m.ents.length
    · have hkI : (k : Int) < (m.ents.length : Int) := by omega
      obtain ⟨x, hx⟩ : ∃ x, m.ents[k] = x := ⟨_, rfl⟩
      have hxk : m.ents[k]? = some x := by rw [List.getElem?_eq_getElem hkn, hx]
      obtain ⟨sb, so, rfl, hcs⟩ := HE1.out k x hxk
      obtain ⟨sc, sd, rfl, hds⟩ := HE2.out k x hxk
      obtain ⟨c0, c1, c2, c3⟩ := hcs _ hbw
      obtain ⟨d0, d1, d2, d3⟩ := hds _ hbw
      have HBw := hid (fun nq => below_drew hbw nq)
      have q0 : (x.idx == x.idx) = true := beq_self_eq_true _
      have q1 : (x.term == x.term) = true := beq_self_eq_true _
      have q2 : (x.kind == x.kind) = true := beq_self_eq_true _
      have q3 : (x.dt.toList == x.dt.toList) = true := beq_self_eq_true _
      clear hx hxk hcs hds hbw
      go_wp2
      go_quiet (fail)
      all_goals
        go_wp2
        go_roundw
        case rel => exact ⟨k + 1, by omega, by go_num, HBw.out _⟩
        case measure => simp [intOf]; omega
    · obtain rfl : k = m.ents.length := by omega
      obtain ⟨-, -, -, -, -, -, -, -, -, x9, x10, x11, x12, -⟩ := HB1.out _ hbw
      obtain ⟨-, -, -, -, -, -, -, -, -, y9, y10, y11, y12, -⟩ := HB2.out _ hbw
      have HSw := hid (HSi.out _ hbw)
      have HFin : Hid (∀ w9, Below wr.heap.size wr w9 → Below w.heap.size w w9) := hid (fun w9 h9 => HPoss.out _ (hbw.trans (h9.mono hbw.size)))
      clear hbw
      go_wp2_with (go_at_call 22; (with_reducible refine HSw.out.mono ?_); rintro e w9 ⟨rfl, hb9⟩; have HF9 := hid (HFin.out _ hb9); clear hb9)
      go_ret
      exact ⟨rfl, HF9.out⟩
end Go.Proofs.Ytppjojjejabaeaa
