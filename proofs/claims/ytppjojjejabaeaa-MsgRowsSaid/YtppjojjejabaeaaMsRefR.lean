/-
  LAYER 7 (msg), THE DOCUMENT's ANSWER: Right.
-/
import Derived.Test.YtppjojjejabaeaaMsRow
import Derived.Deep.DeepCutAuto
import Derived.Deep.CutRange
namespace Go.Proofs.Ytppjojjejabaeaa
open Go.RowKit
set_option linter.unusedVariables false
set_option maxRecDepth 100000

/-- The message's box. -/
def msCells (m : Ms) (ev vv : Value) : Array Value := #[.int .i64 m.kind, .int .i64 m.fr, .int .i64 m.to_, .int .i64 m.term, .int .i64 m.index, .int .i64 m.logTerm, .int .i64 m.commit, .bool m.ok, ev, .int .i64 m.bi, .int .i64 m.bt, vv, .string m.bd, .string m.dt]
/-- Where the cells of the k-th entry lie, as the walk spells them. -/
theorem ents_at {w : World} {v : Value} {L : List Me} (h : RAt enTy w v L) : ∃ a cap, v = .slice a L.length cap ∧ ∀ (k : Nat) x, L[k]? = some x → ∃ sb so, a = some ⟨sb, so, none⟩ ∧ ∀ wx, Below w.heap.size w wx → wx.cell? ⟨sb, so + k * 4, none⟩ = some (.int .i64 x.idx) ∧ wx.cell? ⟨sb, so + k * 4 + 1, none⟩ = some (.int .i64 x.term) ∧ wx.cell? ⟨sb, so + k * 4 + 2, none⟩ = some (.int .i64 x.kind) ∧ wx.cell? ⟨sb, so + k * 4 + 3, none⟩ = some (.string x.dt) := by
  obtain ⟨a, cap, rfl, _, _, hc⟩ := h.at enTy_ok
  refine ⟨a, cap, rfl, fun k x hk => ?_⟩
  obtain ⟨sb, so, e, hlt, hcs⟩ := hc k x hk
  exact ⟨sb, so, e, fun wx hb => ⟨(hb.cell (p := ⟨sb, _, none⟩) hlt).trans (hcs 0 _ rfl), (hb.cell (p := ⟨sb, _, none⟩) hlt).trans (hcs 1 _ rfl), (hb.cell (p := ⟨sb, _, none⟩) hlt).trans (hcs 2 _ rfl), (hb.cell (p := ⟨sb, _, none⟩) hlt).trans (hcs 3 _ rfl)⟩⟩
def RgRel (w : World) (L : List Me) (u : Value) (wr : World) : Prop := ∃ k : Nat, k ≤ L.length ∧ u = .int .i64 (k : Int) ∧ Below w.heap.size w wr ∧ Hid ((L.take k).all rightE = true)
def nodesB (m : Ms) : Bool := decide (1 ≤ m.fr) && decide (m.fr ≤ 9) && decide (1 ≤ m.to_) && decide (m.to_ ≤ 9)
def numsB (m : Ms) : Bool := inN m.term && inN m.index && inN m.logTerm && inN m.commit && inN m.bi && inN m.bt
def BoolPost' (w : World) (b : Bool) (e : Ending) (w' : World) : Prop := e = .returned (.bool b) ∧ Below w.heap.size w w'
set_option maxHeartbeats 8000000 in
theorem refRight_any {w : World} (m : Ms) (ev vv : Value) (hm : MsAt w m ev vv) (hel : m.ents.length ≤ maxLen) (hvl : m.vot.length ≤ 1000000) :
    Calls Try.prog 14 #[msV m ev vv] w (BoolPost' w (rightM m)) := by
  obtain ⟨b, hb⟩ : ∃ b, rightM m = b := ⟨_, rfl⟩
  rw [hb]
  have HB := hid hb
  clear hb
  have hbB : Below w.heap.size w (w.alloc (.cells (msCells m ev vv) 27)) := (Below.refl _ _).alloc (Nat.le_refl _) _
  obtain ⟨wB, hwB⟩ : ∃ wB, w.alloc (.cells (msCells m ev vv) 27) = wB := ⟨_, rfl⟩
  have hat := hm.below hbB
  obtain ⟨ea, ec, rfl, hea⟩ := ents_at hat.ents
  obtain ⟨va, vc, rfl, _⟩ := nums_at hat.vot
  rw [hwB] at hbB hat hea
  have obx : own wB w.heap.size (msCells m (.slice ea m.ents.length ec) (.slice va m.vot.length vc)) 27 := by rw [← hwB]; exact own.new w _ _
  have HBox : Hid (∀ wx, Below wB.heap.size wB wx → own wx w.heap.size (msCells m (.slice ea m.ents.length ec) (.slice va m.vot.length vc)) 27) := hid (fun wx h => obx.same (h.block _ obx.lt))
  have HE := hid hea
  have HRis := hid (fun wx (h : Below wB.heap.size wB wx) => refRising_any (hat.vot.below h) hvl)
  have HbB := hid hbB
  unfold maxLen at hel
  have HPoss : Hid (∀ wx, Below wB.heap.size wB wx → Below w.heap.size w wx) := hid (fun wx h => hbB.trans (h.mono (by rw [← hwB]; simp)))
  have HB0 := hid (Below.refl wB.heap.size wB)
  clear hm hat hea hbB obx hvl
  have HWB := hid hwB
  unfold msV
  unfold msCells at *
  go_enter Try.func14, Try.ntmps14
  go_wp2
  clear hwB
  go_loopw [3] (RgRel wB m.ents) (fun i _ => m.ents.length - (intOf i).toNat)
  case atStart => exact ⟨0, Nat.zero_le _, rfl, HB0.out, hid rfl⟩
  case round =>
    obtain ⟨k, hk, rfl, hbw, hA⟩ := hrel
    have c8 : wr.cell? ⟨w.heap.size, 8, none⟩ = some (.slice ea m.ents.length ec) := ((HBox.out _ hbw).cell 8).trans rfl
    by_cases hkl : k < m.ents.length
    · have hkI : (k : Int) < (m.ents.length : Int) := by omega
      obtain ⟨x, hx⟩ : ∃ x, m.ents[k] = x := ⟨_, rfl⟩
      have hxk : m.ents[k]? = some x := by rw [List.getElem?_eq_getElem hkl, hx]
      obtain ⟨sb, so, rfl, hcs⟩ := HE.out k x hxk
      obtain ⟨c0, c1, c2, c3⟩ := hcs _ hbw
      have HNx : Hid (rightE x = true → ∀ wx, Below wB.heap.size wB wx → RgRel wB m.ents (.int .i64 ((k : Int) + 1)) wx) := hid (fun h wx hwx => ⟨k + 1, by omega, by push_cast; rfl, hwx, hid (by
        rw [List.take_add_one, hxk, List.all_append, hA.out]
        simp [h])⟩)
      have HNo : Hid (rightE x = false → rightM m = false) := hid (fun h => by
        have : m.ents.all rightE = false := by
          rw [List.all_eq_false]
          exact ⟨x, List.mem_of_getElem? hxk, by rw [h]; simp⟩
        unfold rightM
        rw [this]
        rfl)
      have HIx := hid (refIn_any x.idx)
      have HIt := hid (refIn_any x.term)
      have HBw : Hid (Below wB.heap.size wB (wr.alloc (.cells #[.int .i64 x.idx, .int .i64 x.term, .int .i64 x.kind, .string x.dt] 49))) := hid (hbw.alloc hbw.size _)
      have HRE : Hid (rightE x = (inN x.idx && inN x.term && decide (1 ≤ x.kind) && decide (x.kind ≤ 3) && decide (x.dt.size ≤ 4000000))) := hid rfl
      clear hx hxk hcs hbw
      generalize inN x.idx = b0 at *
      generalize inN x.term = b1 at *
      cases b0 with
      | false =>
        obtain rfl : b = false := HB.out.symm.trans (HNo.out (by rw [HRE.out]; rfl))
        go_wp2_with (go_at_call 35; (with_reducible refine (HIx.out _).mono ?_); rintro e w1 ⟨rfl, rfl⟩)
        go_ret
        exact ⟨rfl, HPoss.out _ HBw.out⟩
      | true =>
      cases b1 with
      | false =>
        obtain rfl : b = false := HB.out.symm.trans (HNo.out (by rw [HRE.out]; rfl))
        go_wp2_with (first
          | (go_at_call 35; (with_reducible refine (HIx.out _).mono ?_); rintro e w1 ⟨rfl, rfl⟩)
          | (go_at_call 35; (with_reducible refine (HIt.out _).mono ?_); rintro e w1 ⟨rfl, rfl⟩))
        go_ret
        exact ⟨rfl, HPoss.out _ HBw.out⟩
      | true =>
      by_cases hk1 : x.kind < 1
      · obtain rfl : b = false := HB.out.symm.trans (HNo.out (by rw [HRE.out, decide_eq_false (by omega : ¬ 1 ≤ x.kind)]; rfl))
        go_wp2_with (first
          | (go_at_call 35; (with_reducible refine (HIx.out _).mono ?_); rintro e w1 ⟨rfl, rfl⟩)
          | (go_at_call 35; (with_reducible refine (HIt.out _).mono ?_); rintro e w1 ⟨rfl, rfl⟩))
        go_ret
        exact ⟨rfl, HPoss.out _ HBw.out⟩
      have d1 : decide (x.kind < 1) = false := decide_eq_false hk1
      by_cases hk3 : 3 < x.kind
      · obtain rfl : b = false := HB.out.symm.trans (HNo.out (by rw [HRE.out, decide_eq_false (by omega : ¬ x.kind ≤ 3)]; simp))
        go_wp2_with (first
          | (go_at_call 35; (with_reducible refine (HIx.out _).mono ?_); rintro e w1 ⟨rfl, rfl⟩)
          | (go_at_call 35; (with_reducible refine (HIt.out _).mono ?_); rintro e w1 ⟨rfl, rfl⟩))
        go_ret
        exact ⟨rfl, HPoss.out _ HBw.out⟩
      have d2 : decide (3 < x.kind) = false := decide_eq_false hk3
      by_cases hd : x.dt.size ≤ 4000000
      · have hdI : (x.dt.size : Int) ≤ 4000000 := by omega
        have HR := hid (HNx.out (by rw [HRE.out, decide_eq_true (by omega : 1 ≤ x.kind), decide_eq_true (by omega : x.kind ≤ 3), decide_eq_true hd]; rfl) _ HBw.out)
        go_wp2_with (first
          | (go_at_call 35; (with_reducible refine (HIx.out _).mono ?_); rintro e w1 ⟨rfl, rfl⟩)
          | (go_at_call 35; (with_reducible refine (HIt.out _).mono ?_); rintro e w1 ⟨rfl, rfl⟩))
        go_roundw
        case rel => exact HR.out
        case measure => simp [intOf]; omega
      · have hdI : (4000000 : Int) < (x.dt.size : Int) := by omega
        obtain rfl : b = false := HB.out.symm.trans (HNo.out (by rw [HRE.out, decide_eq_false hd]; simp))
        go_wp2_with (first
          | (go_at_call 35; (with_reducible refine (HIx.out _).mono ?_); rintro e w1 ⟨rfl, rfl⟩)
          | (go_at_call 35; (with_reducible refine (HIt.out _).mono ?_); rintro e w1 ⟨rfl, rfl⟩))
        go_ret
        exact ⟨rfl, HPoss.out _ HBw.out⟩
    · obtain rfl : k = m.ents.length := by omega
      have hall : m.ents.all rightE = true := by have := hA.out; rwa [List.take_length] at this
      have hRM : rightM m = ((true && (decide (1 ≤ m.kind) && decide (m.kind ≤ 6)) && nodesB m && numsB m && risingF 0 m.vot && decide (m.ents.length ≤ 8)) && decide (m.dt.size ≤ 4000000) && decide (m.bd.size ≤ 4000000)) := by
        unfold rightM
        rw [hall]
        rfl
      have HRM := hid hRM
      have hbx := HBox.out _ hbw
      have c0 : wr.cell? ⟨w.heap.size, 0, none⟩ = some (.int .i64 m.kind) := (hbx.cell 0).trans rfl
      have c1 : wr.cell? ⟨w.heap.size, 1, none⟩ = some (.int .i64 m.fr) := (hbx.cell 1).trans rfl
      have c2 : wr.cell? ⟨w.heap.size, 2, none⟩ = some (.int .i64 m.to_) := (hbx.cell 2).trans rfl
      have c3 : wr.cell? ⟨w.heap.size, 3, none⟩ = some (.int .i64 m.term) := (hbx.cell 3).trans rfl
      have c4 : wr.cell? ⟨w.heap.size, 4, none⟩ = some (.int .i64 m.index) := (hbx.cell 4).trans rfl
      have c5 : wr.cell? ⟨w.heap.size, 5, none⟩ = some (.int .i64 m.logTerm) := (hbx.cell 5).trans rfl
      have c6 : wr.cell? ⟨w.heap.size, 6, none⟩ = some (.int .i64 m.commit) := (hbx.cell 6).trans rfl
      have c9 : wr.cell? ⟨w.heap.size, 9, none⟩ = some (.int .i64 m.bi) := (hbx.cell 9).trans rfl
      have c10 : wr.cell? ⟨w.heap.size, 10, none⟩ = some (.int .i64 m.bt) := (hbx.cell 10).trans rfl
      have c11 : wr.cell? ⟨w.heap.size, 11, none⟩ = some (.slice va m.vot.length vc) := (hbx.cell 11).trans rfl
      have HR9 := hid (HRis.out _ hbw)
      have HBw := hid hbw
      clear hall hRM hbx hbw
      obtain ⟨nb, hnb⟩ : ∃ nb, nodesB m = nb := ⟨_, rfl⟩
      have HNB := hid hnb
      obtain ⟨nu, hnu⟩ : ∃ nu, numsB m = nu := ⟨_, rfl⟩
      have HNU := hid hnu
      clear hnb hnu
      go_upto_region 7 with (fail)
      go_cut [5] (fun u wx => u = .bool nb ∧ wx = wr)
      case first =>
        by_cases q0 : m.fr < 1
        · have p0 : ¬ 1 ≤ m.fr := by omega
          obtain rfl : nb = false := HNB.out.symm.trans (by unfold nodesB; rw [decide_eq_false p0]; rfl)
          go_wp2
          go_meet
          exact ⟨rfl, rfl⟩
        have p0 : 1 ≤ m.fr := by omega
        by_cases q1 : 9 < m.fr
        · have p1 : ¬ m.fr ≤ 9 := by omega
          obtain rfl : nb = false := HNB.out.symm.trans (by unfold nodesB; rw [decide_eq_true p0, decide_eq_false p1]; rfl)
          go_wp2
          go_meet
          exact ⟨rfl, rfl⟩
        have p1 : m.fr ≤ 9 := by omega
        by_cases q2 : m.to_ < 1
        · have p2 : ¬ 1 ≤ m.to_ := by omega
          obtain rfl : nb = false := HNB.out.symm.trans (by unfold nodesB; rw [decide_eq_true p0, decide_eq_true p1, decide_eq_false p2]; rfl)
          go_wp2
          go_meet
          exact ⟨rfl, rfl⟩
        have p2 : 1 ≤ m.to_ := by omega
        by_cases q3 : 9 < m.to_
        · have p3 : ¬ m.to_ ≤ 9 := by omega
          obtain rfl : nb = false := HNB.out.symm.trans (by unfold nodesB; rw [decide_eq_true p0, decide_eq_true p1, decide_eq_true p2, decide_eq_false p3]; rfl)
          go_wp2
          go_meet
          exact ⟨rfl, rfl⟩
        have p3 : m.to_ ≤ 9 := by omega
        obtain rfl : nb = true := HNB.out.symm.trans (by unfold nodesB; rw [decide_eq_true p0, decide_eq_true p1, decide_eq_true p2, decide_eq_true p3]; rfl)
        go_wp2
        go_meet
        exact ⟨rfl, rfl⟩
      case rest =>
        obtain ⟨rfl, rfl⟩ := hcut
        go_upto_region 8 with (fail)
        go_cut [6] (fun u wx => u = .bool nu ∧ wx = wc)
        case first =>
          have HI_term := hid (refIn_any m.term)
          have HI_index := hid (refIn_any m.index)
          have HI_logTerm := hid (refIn_any m.logTerm)
          have HI_commit := hid (refIn_any m.commit)
          have HI_bi := hid (refIn_any m.bi)
          have HI_bt := hid (refIn_any m.bt)
          obtain ⟨b_term, h_term⟩ : ∃ b, inN m.term = b := ⟨_, rfl⟩
          rw [h_term] at HI_term
          have G_term := hid h_term
          clear h_term
          obtain ⟨b_index, h_index⟩ : ∃ b, inN m.index = b := ⟨_, rfl⟩
          rw [h_index] at HI_index
          have G_index := hid h_index
          clear h_index
          obtain ⟨b_logTerm, h_logTerm⟩ : ∃ b, inN m.logTerm = b := ⟨_, rfl⟩
          rw [h_logTerm] at HI_logTerm
          have G_logTerm := hid h_logTerm
          clear h_logTerm
          obtain ⟨b_commit, h_commit⟩ : ∃ b, inN m.commit = b := ⟨_, rfl⟩
          rw [h_commit] at HI_commit
          have G_commit := hid h_commit
          clear h_commit
          obtain ⟨b_bi, h_bi⟩ : ∃ b, inN m.bi = b := ⟨_, rfl⟩
          rw [h_bi] at HI_bi
          have G_bi := hid h_bi
          clear h_bi
          obtain ⟨b_bt, h_bt⟩ : ∃ b, inN m.bt = b := ⟨_, rfl⟩
          rw [h_bt] at HI_bt
          have G_bt := hid h_bt
          clear h_bt
          cases b_term with
          | false =>
            obtain rfl : nu = false := HNU.out.symm.trans (by unfold numsB; rw [G_term.out]; rfl)
            go_wp2_with (first | (go_at_call 35; (with_reducible refine (HI_term.out _).mono ?_); rintro e w1 ⟨rfl, rfl⟩) | (go_at_call 35; (with_reducible refine (HI_index.out _).mono ?_); rintro e w1 ⟨rfl, rfl⟩) | (go_at_call 35; (with_reducible refine (HI_logTerm.out _).mono ?_); rintro e w1 ⟨rfl, rfl⟩) | (go_at_call 35; (with_reducible refine (HI_commit.out _).mono ?_); rintro e w1 ⟨rfl, rfl⟩) | (go_at_call 35; (with_reducible refine (HI_bi.out _).mono ?_); rintro e w1 ⟨rfl, rfl⟩) | (go_at_call 35; (with_reducible refine (HI_bt.out _).mono ?_); rintro e w1 ⟨rfl, rfl⟩))
            go_meet
            exact ⟨rfl, rfl⟩
          | true =>
          cases b_index with
          | false =>
            obtain rfl : nu = false := HNU.out.symm.trans (by unfold numsB; rw [G_term.out, G_index.out]; rfl)
            go_wp2_with (first | (go_at_call 35; (with_reducible refine (HI_term.out _).mono ?_); rintro e w1 ⟨rfl, rfl⟩) | (go_at_call 35; (with_reducible refine (HI_index.out _).mono ?_); rintro e w1 ⟨rfl, rfl⟩) | (go_at_call 35; (with_reducible refine (HI_logTerm.out _).mono ?_); rintro e w1 ⟨rfl, rfl⟩) | (go_at_call 35; (with_reducible refine (HI_commit.out _).mono ?_); rintro e w1 ⟨rfl, rfl⟩) | (go_at_call 35; (with_reducible refine (HI_bi.out _).mono ?_); rintro e w1 ⟨rfl, rfl⟩) | (go_at_call 35; (with_reducible refine (HI_bt.out _).mono ?_); rintro e w1 ⟨rfl, rfl⟩))
            go_meet
            exact ⟨rfl, rfl⟩
          | true =>
          cases b_logTerm with
          | false =>
            obtain rfl : nu = false := HNU.out.symm.trans (by unfold numsB; rw [G_term.out, G_index.out, G_logTerm.out]; rfl)
            go_wp2_with (first | (go_at_call 35; (with_reducible refine (HI_term.out _).mono ?_); rintro e w1 ⟨rfl, rfl⟩) | (go_at_call 35; (with_reducible refine (HI_index.out _).mono ?_); rintro e w1 ⟨rfl, rfl⟩) | (go_at_call 35; (with_reducible refine (HI_logTerm.out _).mono ?_); rintro e w1 ⟨rfl, rfl⟩) | (go_at_call 35; (with_reducible refine (HI_commit.out _).mono ?_); rintro e w1 ⟨rfl, rfl⟩) | (go_at_call 35; (with_reducible refine (HI_bi.out _).mono ?_); rintro e w1 ⟨rfl, rfl⟩) | (go_at_call 35; (with_reducible refine (HI_bt.out _).mono ?_); rintro e w1 ⟨rfl, rfl⟩))
            go_meet
            exact ⟨rfl, rfl⟩
          | true =>
          cases b_commit with
          | false =>
            obtain rfl : nu = false := HNU.out.symm.trans (by unfold numsB; rw [G_term.out, G_index.out, G_logTerm.out, G_commit.out]; rfl)
            go_wp2_with (first | (go_at_call 35; (with_reducible refine (HI_term.out _).mono ?_); rintro e w1 ⟨rfl, rfl⟩) | (go_at_call 35; (with_reducible refine (HI_index.out _).mono ?_); rintro e w1 ⟨rfl, rfl⟩) | (go_at_call 35; (with_reducible refine (HI_logTerm.out _).mono ?_); rintro e w1 ⟨rfl, rfl⟩) | (go_at_call 35; (with_reducible refine (HI_commit.out _).mono ?_); rintro e w1 ⟨rfl, rfl⟩) | (go_at_call 35; (with_reducible refine (HI_bi.out _).mono ?_); rintro e w1 ⟨rfl, rfl⟩) | (go_at_call 35; (with_reducible refine (HI_bt.out _).mono ?_); rintro e w1 ⟨rfl, rfl⟩))
            go_meet
            exact ⟨rfl, rfl⟩
          | true =>
          cases b_bi with
          | false =>
            obtain rfl : nu = false := HNU.out.symm.trans (by unfold numsB; rw [G_term.out, G_index.out, G_logTerm.out, G_commit.out, G_bi.out]; rfl)
            go_wp2_with (first | (go_at_call 35; (with_reducible refine (HI_term.out _).mono ?_); rintro e w1 ⟨rfl, rfl⟩) | (go_at_call 35; (with_reducible refine (HI_index.out _).mono ?_); rintro e w1 ⟨rfl, rfl⟩) | (go_at_call 35; (with_reducible refine (HI_logTerm.out _).mono ?_); rintro e w1 ⟨rfl, rfl⟩) | (go_at_call 35; (with_reducible refine (HI_commit.out _).mono ?_); rintro e w1 ⟨rfl, rfl⟩) | (go_at_call 35; (with_reducible refine (HI_bi.out _).mono ?_); rintro e w1 ⟨rfl, rfl⟩) | (go_at_call 35; (with_reducible refine (HI_bt.out _).mono ?_); rintro e w1 ⟨rfl, rfl⟩))
            go_meet
            exact ⟨rfl, rfl⟩
          | true =>
          cases b_bt with
          | false =>
            obtain rfl : nu = false := HNU.out.symm.trans (by unfold numsB; rw [G_term.out, G_index.out, G_logTerm.out, G_commit.out, G_bi.out, G_bt.out]; rfl)
            go_wp2_with (first | (go_at_call 35; (with_reducible refine (HI_term.out _).mono ?_); rintro e w1 ⟨rfl, rfl⟩) | (go_at_call 35; (with_reducible refine (HI_index.out _).mono ?_); rintro e w1 ⟨rfl, rfl⟩) | (go_at_call 35; (with_reducible refine (HI_logTerm.out _).mono ?_); rintro e w1 ⟨rfl, rfl⟩) | (go_at_call 35; (with_reducible refine (HI_commit.out _).mono ?_); rintro e w1 ⟨rfl, rfl⟩) | (go_at_call 35; (with_reducible refine (HI_bi.out _).mono ?_); rintro e w1 ⟨rfl, rfl⟩) | (go_at_call 35; (with_reducible refine (HI_bt.out _).mono ?_); rintro e w1 ⟨rfl, rfl⟩))
            go_meet
            exact ⟨rfl, rfl⟩
          | true =>
          obtain rfl : nu = true := HNU.out.symm.trans (by unfold numsB; rw [G_term.out, G_index.out, G_logTerm.out, G_commit.out, G_bi.out, G_bt.out]; rfl)
          go_wp2_with (first | (go_at_call 35; (with_reducible refine (HI_term.out _).mono ?_); rintro e w1 ⟨rfl, rfl⟩) | (go_at_call 35; (with_reducible refine (HI_index.out _).mono ?_); rintro e w1 ⟨rfl, rfl⟩) | (go_at_call 35; (with_reducible refine (HI_logTerm.out _).mono ?_); rintro e w1 ⟨rfl, rfl⟩) | (go_at_call 35; (with_reducible refine (HI_commit.out _).mono ?_); rintro e w1 ⟨rfl, rfl⟩) | (go_at_call 35; (with_reducible refine (HI_bi.out _).mono ?_); rintro e w1 ⟨rfl, rfl⟩) | (go_at_call 35; (with_reducible refine (HI_bt.out _).mono ?_); rintro e w1 ⟨rfl, rfl⟩))
          go_meet
          exact ⟨rfl, rfl⟩
        case rest =>
          obtain ⟨rfl, rfl⟩ := hcut
          go_upto_region 10 with (go_at_call 36; (with_reducible refine HR9.out.mono ?_); rintro e w9 ⟨rfl, hb9⟩; have HB9 := hid (HBw.out.trans (hb9.mono HBw.out.size)); clear hb9)
          have hbx := HBox.out _ HB9.out
          have k0 : w9.cell? ⟨w.heap.size, 0, none⟩ = some (.int .i64 m.kind) := (hbx.cell 0).trans rfl
          have k8 : w9.cell? ⟨w.heap.size, 8, none⟩ = some (.slice ea m.ents.length ec) := (hbx.cell 8).trans rfl
          have k12 : w9.cell? ⟨w.heap.size, 12, none⟩ = some (.string m.bd) := (hbx.cell 12).trans rfl
          have k13 : w9.cell? ⟨w.heap.size, 13, none⟩ = some (.string m.dt) := (hbx.cell 13).trans rfl
          obtain ⟨rv, hrv⟩ : ∃ rv, risingF 0 m.vot = rv := ⟨_, rfl⟩
          have HRV := hid hrv
          rw [hrv]
          have HFin := hid (HPoss.out _ HB9.out)
          clear hbx hrv c0 c1 c2 c3 c4 c5 c6 c8 c9 c10 c11
          by_cases q0 : m.kind < 1
          · have f0 : ¬ 1 ≤ m.kind := by omega
            obtain rfl : b = false := HB.out.symm.trans (by rw [HRM.out, decide_eq_false f0]; rfl)
            go_wp2
            go_ret
            exact ⟨rfl, HFin.out⟩
          have p0 : 1 ≤ m.kind := by omega
          have d0 : decide (1 ≤ m.kind) = true := decide_eq_true p0
          by_cases q1 : 6 < m.kind
          · have f1 : ¬ m.kind ≤ 6 := by omega
            obtain rfl : b = false := HB.out.symm.trans (by rw [HRM.out, decide_eq_true p0, decide_eq_false f1]; rfl)
            go_wp2
            go_ret
            exact ⟨rfl, HFin.out⟩
          have p1 : m.kind ≤ 6 := by omega
          have d1 : decide (m.kind ≤ 6) = true := decide_eq_true p1
          cases nb with
          | false =>
            obtain rfl : b = false := HB.out.symm.trans (by rw [HRM.out, decide_eq_true p0, decide_eq_true p1, HNB.out]; rfl)
            go_wp2
            go_ret
            exact ⟨rfl, HFin.out⟩
          | true =>
          cases nu with
          | false =>
            obtain rfl : b = false := HB.out.symm.trans (by rw [HRM.out, decide_eq_true p0, decide_eq_true p1, HNB.out, HNU.out]; rfl)
            go_wp2
            go_ret
            exact ⟨rfl, HFin.out⟩
          | true =>
          cases rv with
          | false =>
            obtain rfl : b = false := HB.out.symm.trans (by rw [HRM.out, decide_eq_true p0, decide_eq_true p1, HNB.out, HNU.out, HRV.out]; rfl)
            go_wp2
            go_ret
            exact ⟨rfl, HFin.out⟩
          | true =>
          by_cases q2 : m.ents.length ≤ 8
          case neg =>
            have fq2 : (8 : Int) < (m.ents.length : Int) := by omega
            have gq2 : decide ((m.ents.length : Int) ≤ 8) = false := decide_eq_false (by omega)
            obtain rfl : b = false := HB.out.symm.trans (by rw [HRM.out, decide_eq_true p0, decide_eq_true p1, HNB.out, HNU.out, HRV.out, decide_eq_false q2]; rfl)
            go_wp2
            go_ret
            exact ⟨rfl, HFin.out⟩
          have fq2 : (m.ents.length : Int) ≤ 8 := by omega
          by_cases q3 : m.dt.size ≤ 4000000
          case neg =>
            have fq3 : (4000000 : Int) < (m.dt.size : Int) := by omega
            have gq3 : decide ((m.dt.size : Int) ≤ 4000000) = false := decide_eq_false (by omega)
            obtain rfl : b = false := HB.out.symm.trans (by rw [HRM.out, decide_eq_true p0, decide_eq_true p1, HNB.out, HNU.out, HRV.out, decide_eq_true q2, decide_eq_false q3]; rfl)
            go_wp2
            go_ret
            exact ⟨rfl, HFin.out⟩
          have fq3 : (m.dt.size : Int) ≤ 4000000 := by omega
          by_cases q4 : m.bd.size ≤ 4000000
          case neg =>
            have fq4 : (4000000 : Int) < (m.bd.size : Int) := by omega
            have gq4 : decide ((m.bd.size : Int) ≤ 4000000) = false := decide_eq_false (by omega)
            obtain rfl : b = false := HB.out.symm.trans (by rw [HRM.out, decide_eq_true p0, decide_eq_true p1, HNB.out, HNU.out, HRV.out, decide_eq_true q2, decide_eq_true q3, decide_eq_false q4]; rfl)
            go_wp2
            go_ret
            exact ⟨rfl, HFin.out⟩
          have fq4 : (m.bd.size : Int) ≤ 4000000 := by omega
          obtain rfl : b = true := HB.out.symm.trans (by rw [HRM.out, decide_eq_true p0, decide_eq_true p1, HNB.out, HNU.out, HRV.out, decide_eq_true q2, decide_eq_true q3, decide_eq_true q4]; rfl)
          go_wp2
          go_ret
          exact ⟨rfl, HFin.out⟩
end Go.Proofs.Ytppjojjejabaeaa
