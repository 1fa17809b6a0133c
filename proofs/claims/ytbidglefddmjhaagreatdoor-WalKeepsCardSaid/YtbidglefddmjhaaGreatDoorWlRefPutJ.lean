import Derived.Test.YtbidglefddmjhaaGreatDoorMq8J
import Derived.Test.YtbidglefddmjhaaGreatDoorWlShown2J
import Derived.Test.YtbidglefddmjhaaGreatDoorMq4J
/-
  LAYER 3 (wal), the document's log: an entry put in a row.
-/
namespace Go.Proofs.YtbidglefddmjhaaGreatDoor
open Go.RowKit Go.Maps
set_option linter.unusedVariables false
set_option maxRecDepth 100000

def PutsPost (w : World) (L : List En) (e : Ending) (w' : World) : Prop := ∃ v', e = .returned v' ∧ EntRow w' w.heap.size v' L ∧ Below w.heap.size w w'
theorem row_lit (wk : World) (x : En) {B : Nat} (hB : B ≤ wk.heap.size) : EntRow (wk.alloc (.cells #[.int .i64 x.idx, .int .i64 x.term, .int .i64 x.kind, .string (mk x.data)] 95)) B (.slice (some ⟨wk.heap.size, 0, none⟩) 1 1) [x] :=
  ⟨rfl, .inr ⟨wk.heap.size, 1, #[.int .i64 x.idx, .int .i64 x.term, .int .i64 x.kind, .string (mk x.data)], rfl, hB, heap_alloc_new wk _, Nat.le_refl _, by decide, rfl, rfl⟩⟩
set_option maxHeartbeats 4000000 in
/-- Put, where the entry stands alone behind it. -/
theorem refPut_alone {B : Nat} (v : Value) (L : List En) (x : En) (w : World) (hv : EntRow w B v L) (hL : L.length ≤ 10000) (hc : Consec L) (hin : ∀ e ∈ L, e.In) (hx : x.In) (hz : L = [] ∨ IntKind.i64.wrap (lastI L + 1) < x.idx ∨ x.idx < firstI L) :
    Calls Tryz.prog 89 #[v, enV x] w (PutsPost w (putE L x)) := by
  obtain ⟨ao, cap, rfl, hcap, -⟩ := hv.slice
  unfold enV
  obtain ⟨W, hW⟩ : ∃ W, w.alloc (.cells #[.int .i64 x.idx, .int .i64 x.term, .int .i64 x.kind, .string (mk x.data)] 95) = W := ⟨_, rfl⟩
  have hbW : Below w.heap.size w W := by rw [← hW]; exact Below.alloc (Below.refl _ _) (Nat.le_refl _) _
  have hoW : own W w.heap.size #[.int .i64 x.idx, .int .i64 x.term, .int .i64 x.kind, .string (mk x.data)] 95 := by rw [← hW]; exact own.new _ _ _
  have HBW := hid hbW
  have b0 := (hoW.cell 0).trans rfl
  have b1 := (hoW.cell 1).trans rfl
  have b2 := (hoW.cell 2).trans rfl
  have b3 := (hoW.cell 3).trans rfl
  have HLit : Hid (∀ wk, Below W.heap.size W wk → aheadE L x.idx = 0 → PutsPost w (putE L x) (.returned (.slice (some ⟨wk.heap.size, 0, none⟩) 1 1)) (wk.alloc (.cells #[.int .i64 x.idx, .int .i64 x.term, .int .i64 x.kind, .string (mk x.data)] 95))) := hid (fun wk hb h0 => by
    have hb2 := HBW.out.trans (hb.mono HBW.out.size)
    refine ⟨_, rfl, ?_, hb2.alloc hb2.size _⟩
    unfold putE
    rw [h0, List.take_zero, List.nil_append]
    exact row_lit wk x hb2.size)
  by_cases hl0 : L = []
  · subst hl0
    have hA := hid (show aheadE [] x.idx = 0 from by unfold aheadE; rw [if_pos (.inl rfl)])
    have HLit := hid (fun wk hb => HLit.out wk hb hA.out)
    clear hv hc hin hbW hoW hA hz
    generalize putE [] x = M at *
    generalize x.idx = x0 at *
    generalize x.term = x1 at *
    generalize x.kind = x2 at *
    generalize mk x.data = x3 at *
    go_enter Tryz.func89, Tryz.ntmps89
    go_wp2
    go_quiet (fail)
    go_wp2
    go_ret
    exact HLit.out _ (below_drew (Below.refl _ _) _)
  · obtain ⟨m, hm⟩ : ∃ m, L.length = m + 1 := ⟨L.length - 1, by have := List.length_pos_iff.2 hl0; omega⟩
    have HRow := hid hv
    obtain ⟨g1, rfl, _, hg1, hcell, _⟩ := hv.at (i := 0) (by omega)
    have a0 := (hcell 0 (by omega)).1
    have am := (hcell m (by omega)).1
    have c0 := (hbW.cell (p := ⟨g1, 0 * 4, none⟩) hg1).trans a0
    have cm := (hbW.cell (p := ⟨g1, m * 4, none⟩) hg1).trans am
    rw [Nat.zero_mul] at c0
    have hf : (L[0]'(by omega)).idx = firstI L := by have := hc 0 (by omega); omega
    have hl : (L[m]'(by omega)).idx = lastI L := by rw [lastI_get hl0]; congr 2; omega
    rw [hf] at c0
    rw [hl] at cm
    have hfI : I64 (firstI L) := by rw [← hf]; exact (hin _ (List.getElem_mem _)).idx
    have hxI := hx.idx
    have hmI : (m : Int) ≤ 10000 := by omega
    have hm0 : (0 : Int) ≤ (m : Int) := by omega
    have hW1 : IntKind.i64.wrap ((m : Int) + 1 - 1) = (m : Int) := by rw [show (m : Int) + 1 - 1 = m by omega]; exact IntWalk.i64_in _ (by omega)
    have hW2 : IntKind.i64.wrap (m : Int) = (m : Int) := IntWalk.i64_in _ (by omega)
    have hmlt : (m : Int) < (m : Int) + 1 := by omega
    have hmlt0 : (0 : Int) < (m : Int) + 1 := by omega
    have hmltN : m < m + 1 := by omega
    have hmlt0N : 0 < m + 1 := by omega
    have hd1 : decide ((m : Int) < (m : Int) + 1) = true := decide_eq_true hmlt
    have hd2 : decide ((0 : Int) < (m : Int) + 1) = true := decide_eq_true hmlt0
    have hq0 : ((m : Int) + 1 == 0) = false := beq_false_of_ne (by omega)
    clear hcell a0 am hf hl hbW hoW
    rw [hm] at *
    by_cases c1 : IntKind.i64.wrap (lastI L + 1) < x.idx
    · have hA : aheadE L x.idx = 0 := by unfold aheadE; exact if_pos (.inr (.inl c1))
      have HLit := hid (fun wk hb => HLit.out wk hb hA)
      clear hv hc hin hA hz
      generalize putE L x = M at *
      generalize firstI L = f0 at *
      generalize lastI L = l0 at *
      generalize x.idx = x0 at *
      generalize x.term = x1 at *
      generalize x.kind = x2 at *
      generalize mk x.data = x3 at *
      go_enter Tryz.func89, Tryz.ntmps89
      go_wp2
      go_quiet (fail)
      go_wp2
      go_ret
      exact HLit.out _ (below_drew (Below.refl _ _) _)
    · by_cases c2 : x.idx < firstI L
      · have hA : aheadE L x.idx = 0 := by unfold aheadE; exact if_pos (.inr (.inr c2))
        have HLit := hid (fun wk hb => HLit.out wk hb hA)
        clear hv hc hin hA hz
        generalize putE L x = M at *
        generalize firstI L = f0 at *
        generalize lastI L = l0 at *
        generalize x.idx = x0 at *
        generalize x.term = x1 at *
        generalize x.kind = x2 at *
        generalize mk x.data = x3 at *
        go_enter Tryz.func89, Tryz.ntmps89
        go_wp2
        go_quiet (fail)
        go_wp2
        go_ret
        exact HLit.out _ (below_drew (Below.refl _ _) _)
      · exact absurd hz (by rintro (h | h | h); exact hl0 h; exact c1 h; exact c2 h)
end Go.Proofs.YtbidglefddmjhaaGreatDoor

