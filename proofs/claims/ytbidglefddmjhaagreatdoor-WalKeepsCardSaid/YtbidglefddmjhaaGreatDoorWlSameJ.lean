import Derived.Test.YtbidglefddmjhaaGreatDoorMq5J
import Derived.BigQuiet
/-
  LAYER 3 (wal), the laws' own helpers: two rows of entries compared.
-/
namespace Go.Proofs.YtbidglefddmjhaaGreatDoor
open Go.RowKit Go.Maps
set_option linter.unusedVariables false
set_option maxRecDepth 100000

def SameRel (w : World) (L M : List En) (i : Value) (wr : World) : Prop := ∃ k : Nat, k ≤ L.length ∧ i = .int .i64 k ∧ Below w.heap.size w wr ∧ L.take k = M.take k
def SamePost (w : World) (L M : List En) (e : Ending) (w' : World) : Prop := e = .returned (.bool (decide (L = M))) ∧ Below w.heap.size w w'
set_option maxHeartbeats 4000000 in
theorem same_any (u v : Value) (L M : List En) (w : World) (hu : EntsAt w u L) (hv : EntsAt w v M) (hL : L.length ≤ 100000) (hM : M.length ≤ 100000) :
    Calls Tryz.prog 21 #[u, v] w (SamePost w L M) := by
  obtain ⟨ao, cap, rfl, hc⟩ := hu
  obtain ⟨bo, dap, rfl, hd⟩ := hv
  by_cases hlen : L.length = M.length
  · have HC := hid hc
    have HD := hid hd
    have HLen := hid hlen
    have hq : ((L.length : Int) != (M.length : Int)) = false := by simp [hlen]
    clear hc hd hlen
    go_enter Tryz.func21, Tryz.ntmps21
    go_wp2
    go_loopw [5] (SameRel w L M) (fun i _ => L.length - (intOf i).toNat)
    case atStart => exact ⟨0, Nat.zero_le _, rfl, Below.refl _ _, by simp⟩
    case round =>
      obtain ⟨k, hk, rfl, hb, hsm⟩ := hrel
      have HSm := hid hsm
      clear hsm
      by_cases hlt : k < L.length
      · have hlt2 : k < M.length := by rw [← HLen.out]; exact hlt
        obtain ⟨g1, o1, rfl, hg1, hc1⟩ := HC.out (fun e => by rw [e] at hlt; simp at hlt)
        obtain ⟨g2, o2, rfl, hg2, hc2⟩ := HD.out (fun e => by rw [e] at hlt2; simp at hlt2)
        obtain ⟨a0, a1, a2, a3⟩ := hc1 k hlt
        obtain ⟨b0, b1, b2, b3⟩ := hc2 k hlt2
        have c0 := (hb.cell (p := ⟨g1, o1 + k * 4, none⟩) hg1).trans a0
        have c1 := (hb.cell (p := ⟨g1, o1 + k * 4 + 1, none⟩) hg1).trans a1
        have c2 := (hb.cell (p := ⟨g1, o1 + k * 4 + 2, none⟩) hg1).trans a2
        have c3 := (hb.cell (p := ⟨g1, o1 + k * 4 + 3, none⟩) hg1).trans a3
        have d0 := (hb.cell (p := ⟨g2, o2 + k * 4, none⟩) hg2).trans b0
        have d1 := (hb.cell (p := ⟨g2, o2 + k * 4 + 1, none⟩) hg2).trans b1
        have d2 := (hb.cell (p := ⟨g2, o2 + k * 4 + 2, none⟩) hg2).trans b2
        have d3 := (hb.cell (p := ⟨g2, o2 + k * 4 + 3, none⟩) hg2).trans b3
        clear a0 a1 a2 a3 b0 b1 b2 b3 hc1 hc2
        have hkI : (k : Int) < (L.length : Int) := by omega
        have hkJ : (k : Int) < (M.length : Int) := by omega
        by_cases heq : L[k] = M[k]
        · have HE := hid (show L.take (k + 1) = M.take (k + 1) from by rw [List.take_succ_eq_append_getElem hlt, List.take_succ_eq_append_getElem hlt2, HSm.out, heq])
          rw [← heq] at d0 d1 d2 d3
          clear heq
          generalize L[k] = x at *
          generalize mk x.data = db at *
          go_wp2
          go_quiet (fail)
          go_wp2
          go_roundw
          case rel => exact ⟨k + 1, by omega, by go_num, below_drew hb _, HE.out⟩
          case measure => simp [intOf]; omega
        · have HF := hid (show decide (L = M) = false from decide_eq_false (fun e => heq (by simp only [e])))
          have HP := hid (fun wx (hx : Below w.heap.size w wx) => (show SamePost w L M (.returned (.bool false)) wx from ⟨by rw [HF.out], hx⟩))
          have hne : (¬ (L[k]'hlt).idx = (M[k]'hlt2).idx) ∨ ((M[k]'hlt2).idx = (L[k]'hlt).idx ∧ ¬ (L[k]'hlt).term = (M[k]'hlt2).term) ∨ ((M[k]'hlt2).idx = (L[k]'hlt).idx ∧ (M[k]'hlt2).term = (L[k]'hlt).term ∧ ¬ (L[k]'hlt).kind = (M[k]'hlt2).kind) ∨ ((M[k]'hlt2).idx = (L[k]'hlt).idx ∧ (M[k]'hlt2).term = (L[k]'hlt).term ∧ (M[k]'hlt2).kind = (L[k]'hlt).kind ∧ ¬ mk (L[k]'hlt).data = mk (M[k]'hlt2).data) := by
            by_cases e0 : (M[k]'hlt2).idx = (L[k]'hlt).idx
            · by_cases e1 : (M[k]'hlt2).term = (L[k]'hlt).term
              · by_cases e2 : (M[k]'hlt2).kind = (L[k]'hlt).kind
                · refine .inr (.inr (.inr ⟨e0, e1, e2, fun e => heq ?_⟩))
                  have e3 : (L[k]'hlt).data = (M[k]'hlt2).data := by have := congrArg (fun b : ByteArray => b.data.toList) e; exact this
                  cases hx : L[k]'hlt
                  cases hy : M[k]'hlt2
                  rw [hx, hy] at e0 e1 e2 e3
                  simp only at e0 e1 e2 e3
                  rw [e0, e1, e2, e3]
                · exact .inr (.inr (.inl ⟨e0, e1, fun e => e2 e.symm⟩))
              · exact .inr (.inl ⟨e0, fun e => e1 e.symm⟩)
            · exact .inl (fun e => e0 e.symm)
          clear heq HF
          generalize (L[k]'hlt).idx = x0 at *
          generalize (L[k]'hlt).term = x1 at *
          generalize (L[k]'hlt).kind = x2 at *
          generalize mk (L[k]'hlt).data = x3 at *
          generalize (M[k]'hlt2).idx = y0 at *
          generalize (M[k]'hlt2).term = y1 at *
          generalize (M[k]'hlt2).kind = y2 at *
          generalize mk (M[k]'hlt2).data = y3 at *
          rcases hne with h0 | ⟨rfl, h1⟩ | ⟨rfl, rfl, h2⟩ | ⟨rfl, rfl, rfl, h3⟩
          · go_wp2
            go_quiet (fail)
            go_wp2
            go_ret
            exact HP.out _ (below_drew hb _)
          · go_wp2
            go_quiet (fail)
            go_wp2
            go_ret
            exact HP.out _ (below_drew hb _)
          · go_wp2
            go_quiet (fail)
            go_wp2
            go_ret
            exact HP.out _ (below_drew hb _)
          · have h4 : ¬ x3.toList = y3.toList := fun e => h3 (by apply str_ext; rw [Lib.toList_data, Lib.toList_data] at e; exact e)
            go_wp2
            go_quiet (fail)
            go_wp2
            go_ret
            exact HP.out _ (below_drew hb _)
      · obtain rfl : k = L.length := by omega
        have HF := hid (show decide (L = M) = true from decide_eq_true (by have h := HSm.out; rwa [List.take_length, HLen.out, List.take_length] at h))
        have HP := hid (show SamePost w L M (.returned (.bool true)) wr from ⟨by rw [HF.out], hb⟩)
        go_wp2
        go_ret
        exact HP.out
  · have hq : ((L.length : Int) != (M.length : Int)) = true := by simp; omega
    have hp : SamePost w L M (.returned (.bool false)) w := ⟨by rw [decide_eq_false (fun e => hlen (by rw [e]))], Below.refl _ _⟩
    have HP := hid hp
    clear hp hlen hc hd
    go_enter Tryz.func21, Tryz.ntmps21
    go_wp2
    go_ret
    exact HP.out
end Go.Proofs.YtbidglefddmjhaaGreatDoor

