/-
  LAYER 7 (msg): the laws' own helpers: small.
-/
import Derived.Test.YtppjojjejabaeaaMsLaw
import Derived.Test.YtppjojjejabaeaaMsRefQ
namespace Go.Proofs.Ytppjojjejabaeaa
open Go.RowKit
set_option linter.unusedVariables false
set_option maxRecDepth 100000

def smE (e : Me) : Bool := decide (e.dt.size ≤ 600)
def smallM (m : Ms) : Bool := decide (m.ents.length ≤ 20) && decide (m.vot.length ≤ 30) && decide (m.dt.size ≤ 2000) && decide (m.bd.size ≤ 2000) && m.ents.all smE
def SmRel (w : World) (L : List Me) (u : Value) (wr : World) : Prop := ∃ k : Nat, k ≤ L.length ∧ u = .int .i64 (k : Int) ∧ w = wr ∧ Hid ((L.take k).all smE = true)
set_option maxHeartbeats 4000000 in
theorem small_any {w : World} (m : Ms) (ev vv : Value) (hm : MsAt w m ev vv) (hi : MsIn m) :
    Calls Try.prog 10 #[msV m ev vv] w (BoolPost' w (smallM m)) := by
  obtain ⟨b, hb⟩ : ∃ b, smallM m = b := ⟨_, rfl⟩
  rw [hb]
  have HB := hid hb
  have hbB : Below w.heap.size w (w.alloc (.cells (msCells m ev vv) 27)) := (Below.refl _ _).alloc (Nat.le_refl _) _
  obtain ⟨wB, hwB⟩ : ∃ wB, w.alloc (.cells (msCells m ev vv) 27) = wB := ⟨_, rfl⟩
  have hat := hm.below hbB
  obtain ⟨ea, ec, rfl, hea⟩ := ents_at hat.ents
  obtain ⟨va, vc, rfl, _⟩ := nums_at hat.vot
  rw [hwB] at hbB hat hea
  have obx : own wB w.heap.size (msCells m (.slice ea m.ents.length ec) (.slice va m.vot.length vc)) 27 := by rw [← hwB]; exact own.new w _ _
  obtain ⟨x0, x1, x2, x3, x4, x5, x6, x7, x8, x9, x10, x11, x12, x13⟩ := msBox_of obx
  have HE := hid hea
  have HBw := hid hbB
  have hel := hi.el
  have hvl := hi.vl
  have hdl := hi.dt
  have hbl := hi.bd
  have HIn := hid hi
  unfold maxLen at hel hvl hdl hbl
  have HW := hid hwB
  have HF : Hid (∀ c, smallM m = c → BoolPost' w b (.returned (.bool c)) wB) := hid (fun c h => by
    have := HB.out.symm.trans h
    subst this
    exact ⟨rfl, HBw.out⟩)
  clear hm hat hea hbB obx hi hb x0 x1 x2 x3 x4 x5 x6 x7 x9 x10
  unfold msV
  unfold msCells at *
  by_cases q0 : m.ents.length ≤ 20
  case neg =>
    have f0 : (20 : Int) < (m.ents.length : Int) := by omega
    have HR := hid (HF.out false (by unfold smallM; rw [decide_eq_false q0]; rfl))
    go_enter Try.func10, Try.ntmps10
    go_wp2
    go_ret
    exact HR.out
  have f0 : (m.ents.length : Int) ≤ 20 := by omega
  by_cases q1 : m.vot.length ≤ 30
  case neg =>
    have f1 : (30 : Int) < (m.vot.length : Int) := by omega
    have HR := hid (HF.out false (by unfold smallM; rw [decide_eq_true q0, decide_eq_false q1]; rfl))
    go_enter Try.func10, Try.ntmps10
    go_wp2
    go_ret
    exact HR.out
  have f1 : (m.vot.length : Int) ≤ 30 := by omega
  by_cases q2 : m.dt.size ≤ 2000
  case neg =>
    have f2 : (2000 : Int) < (m.dt.size : Int) := by omega
    have HR := hid (HF.out false (by unfold smallM; rw [decide_eq_true q0, decide_eq_true q1, decide_eq_false q2]; rfl))
    go_enter Try.func10, Try.ntmps10
    go_wp2
    go_ret
    exact HR.out
  have f2 : (m.dt.size : Int) ≤ 2000 := by omega
  by_cases q3 : m.bd.size ≤ 2000
  case neg =>
    have f3 : (2000 : Int) < (m.bd.size : Int) := by omega
    have HR := hid (HF.out false (by unfold smallM; rw [decide_eq_true q0, decide_eq_true q1, decide_eq_true q2, decide_eq_false q3]; rfl))
    go_enter Try.func10, Try.ntmps10
    go_wp2
    go_ret
    exact HR.out
  have f3 : (m.bd.size : Int) ≤ 2000 := by omega
  have HSm : Hid (smallM m = m.ents.all smE) := hid (by unfold smallM; rw [decide_eq_true q0, decide_eq_true q1, decide_eq_true q2, decide_eq_true q3]; rfl)
  go_enter Try.func10, Try.ntmps10
  go_wp2
  clear hwB
  go_loopw [3] (SmRel wB m.ents) (fun i _ => m.ents.length - (intOf i).toNat)
  case atStart => exact ⟨0, Nat.zero_le _, rfl, rfl, hid rfl⟩
  case round =>
    obtain ⟨k, hk, rfl, rfl, hA⟩ := hrel
    by_cases hkn : k < m.ents.length
    · have hkI : (k : Int) < (m.ents.length : Int) := by omega
      obtain ⟨x, hx⟩ : ∃ x, m.ents[k] = x := ⟨_, rfl⟩
      have hxk : m.ents[k]? = some x := by rw [List.getElem?_eq_getElem hkn, hx]
      obtain ⟨sb, so, rfl, hcs⟩ := HE.out k x hxk
      obtain ⟨c0, c1, c2, c3⟩ := hcs _ (Below.refl _ _)
      have hxs := (HIn.out.ents x (List.mem_of_getElem? hxk)).dt
      unfold maxLen at hxs
      by_cases hd : x.dt.size ≤ 600
      · have hdI : (x.dt.size : Int) ≤ 600 := by omega
        have HN : Hid ((m.ents.take (k + 1)).all smE = true) := hid (by
          rw [List.take_add_one, hxk, List.all_append, hA.out]
          simp [smE, hd])
        clear hx hxk hcs
        go_wp2
        go_roundw
        case rel => exact ⟨k + 1, by omega, by go_num, rfl, HN⟩
        case measure => simp [intOf]; omega
      · have hdI : (600 : Int) < (x.dt.size : Int) := by omega
        have HR := hid (HF.out false (by
          rw [HSm.out, List.all_eq_false]
          exact ⟨x, List.mem_of_getElem? hxk, by simp [smE]; omega⟩))
        clear hx hxk hcs
        go_wp2
        go_ret
        exact HR.out
    · obtain rfl : k = m.ents.length := by omega
      have HR := hid (HF.out true (by rw [HSm.out]; have := hA.out; rwa [List.take_length] at this))
      go_wp2
      go_ret
      exact HR.out
end Go.Proofs.Ytppjojjejabaeaa
