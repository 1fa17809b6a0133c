import Derived.Test.YtgchdlfoehlomaaGreatDoorWlCJ
import Derived.Deep.RegionHeld3
import Derived.StillTailTactics
import Derived.RegionTactic
import Derived.BigRegion
/-
  LAYER 3 (wal): records read: a hard state, an entry.
-/
namespace Go.Proofs.YtgchdlfoehlomaaGreatDoor
open Go.RowKit
set_option linter.unusedVariables false
set_option maxRecDepth 100000

def HardOut (w : World) (q : Option Hd) (e : Ending) (w' : World) : Prop := ∃ h : Hd, e = .returned (.tuple #[.agg #[.int .i64 h.term, .int .i64 h.vote], .bool q.isSome]) ∧ (∀ h', q = some h' → h = h') ∧ Below w.heap.size w w'
theorem two_of {is : List Int} (h : is.length = 2) : ∃ a b, is = [a, b] := by
  match is, h with
  | [a, b], _ => exact ⟨a, b, rfl⟩
/-- What cutting leaves, as toHard's own words need it. -/
def HardCut (w : World) (q : Option Hd) (H : Nat) (e : Ending) (w' : World) : Prop :=
  ∃ a b : Int, own w' (H + 1) #[.int .i64 a, .int .i64 b] 37 ∧ own w' H #[.int .i64 0, .int .i64 0] 37 ∧ Below H w w' ∧ H + 2 < w'.heap.size ∧
    ((e = .returned (.tuple #[.string ⟨#[]⟩, .bool false]) ∧ q = none) ∨
     (∃ r : List UInt8, r ≠ [] ∧ e = .returned (.tuple #[.string (mk r), .bool true]) ∧ q = none) ∨
     (e = .returned (.tuple #[.string ⟨#[]⟩, .bool true]) ∧ q = if hdB ⟨a, b⟩ = true then some ⟨a, b⟩ else none))
theorem hardCut_any (s : ByteArray) (w : World) (hs : s.size ≤ maxLen) :
    Calls Tryz.prog 146 #[.string s, .slice (some ⟨w.heap.size + 1 + 1, 0, none⟩) 2 2]
      (((w.alloc (.cells #[.int .i64 0, .int .i64 0] 37)).alloc (.cells #[.int .i64 0, .int .i64 0] 37)).alloc (.cells #[.pointer (some ⟨w.heap.size + 1, 0, none⟩), .pointer (some ⟨w.heap.size + 1, 1, none⟩)] 198))
      (HardCut w (decH s.data.toList) w.heap.size) := by
  have z1 : (w.alloc (.cells #[.int .i64 0, .int .i64 0] 37)).heap.size = w.heap.size + 1 := by simp
  have z2 : ((w.alloc (.cells #[.int .i64 0, .int .i64 0] 37)).alloc (.cells #[.int .i64 0, .int .i64 0] 37)).heap.size = w.heap.size + 1 + 1 := by simp
  have o0 := own.new w #[.int .i64 0, .int .i64 0] 37
  have o1 := own.new (w.alloc (.cells #[.int .i64 0, .int .i64 0] 37)) #[.int .i64 0, .int .i64 0] 37
  rw [z1] at o1
  have o2 := own.new ((w.alloc (.cells #[.int .i64 0, .int .i64 0] 37)).alloc (.cells #[.int .i64 0, .int .i64 0] 37)) #[.pointer (some ⟨w.heap.size + 1, 0, none⟩), .pointer (some ⟨w.heap.size + 1, 1, none⟩)] 198
  rw [z2] at o2
  have b1 : Below w.heap.size w (w.alloc (.cells #[.int .i64 0, .int .i64 0] 37)) := Below.alloc (Below.refl _ _) (Nat.le_refl _) _
  have b12 : Below (w.heap.size + 1) (w.alloc (.cells #[.int .i64 0, .int .i64 0] 37)) ((w.alloc (.cells #[.int .i64 0, .int .i64 0] 37)).alloc (.cells #[.int .i64 0, .int .i64 0] 37)) := Below.alloc (Below.refl _ _) (by rw [z1]; exact Nat.le_refl _) _
  have b23 : Below (w.heap.size + 1 + 1) ((w.alloc (.cells #[.int .i64 0, .int .i64 0] 37)).alloc (.cells #[.int .i64 0, .int .i64 0] 37)) (((w.alloc (.cells #[.int .i64 0, .int .i64 0] 37)).alloc (.cells #[.int .i64 0, .int .i64 0] 37)).alloc (.cells #[.pointer (some ⟨w.heap.size + 1, 0, none⟩), .pointer (some ⟨w.heap.size + 1, 1, none⟩)] 198)) := Below.alloc (Below.refl _ _) (by rw [z2]; exact Nat.le_refl _) _
  have o1' := o1.same (b23.block _ (by omega))
  have o0' := (o0.same (b12.block _ (by omega))).same (b23.block _ (by omega))
  have z3 : (((w.alloc (.cells #[.int .i64 0, .int .i64 0] 37)).alloc (.cells #[.int .i64 0, .int .i64 0] 37)).alloc (.cells #[.pointer (some ⟨w.heap.size + 1, 0, none⟩), .pointer (some ⟨w.heap.size + 1, 1, none⟩)] 198)).heap.size = w.heap.size + 3 := by simp
  have hb3 : Below w.heap.size w (((w.alloc (.cells #[.int .i64 0, .int .i64 0] 37)).alloc (.cells #[.int .i64 0, .int .i64 0] 37)).alloc (.cells #[.pointer (some ⟨w.heap.size + 1, 0, none⟩), .pointer (some ⟨w.heap.size + 1, 1, none⟩)] 198)) := (b1.trans (b12.mono (by omega))).trans (b23.mono (by omega))
  refine (cutNums_any s 2 (by omega) (w.heap.size + 1) (w.heap.size + 1 + 1) 37 198 [0, 0] [] _ o2 o1' (by omega) rfl hs).mono ?_
  rintro e w' ⟨he, is, hil, hq, ho, hc⟩
  obtain ⟨a, b, rfl⟩ := two_of hil
  have hoH : own w' w.heap.size #[.int .i64 0, .int .i64 0] 37 := o0'.chg hc (by omega)
  have hbw : Below w.heap.size w w' := hb3.trans (hc.below (by omega) (fun b e => by omega))
  have hsz : w.heap.size + 2 < w'.heap.size := by have := hc.size; rw [z3] at this; omega
  refine ⟨a, b, ho, hoH, hbw, hsz, ?_⟩
  unfold decH
  cases h : cutN 2 s.data.toList with
  | none => rw [h] at he; exact .inl ⟨he, rfl⟩
  | some p =>
    obtain ⟨vs, r⟩ := p
    have hv := hq vs r h
    subst hv
    rw [h] at he
    by_cases hr : r = []
    · subst hr
      refine .inr (.inr ⟨he, ?_⟩)
      simp
    · refine .inr (.inl ⟨r, hr, he, ?_⟩)
      simp [hr]
set_option maxHeartbeats 4000000 in
theorem toHard_any (s : ByteArray) (w : World) (hs : s.size ≤ maxLen) : Calls Tryz.prog 106 #[.string s] w (HardOut w (decH s.data.toList)) := by
  have HC := hid (hardCut_any s w hs)
  generalize decH s.data.toList = q at *
  go_enter Tryz.func106, Tryz.ntmps106
  go_wp2_with (go_at_call 146; (with_reducible refine HC.out.mono ?_); rintro e w1 ⟨a, b, ho1, ho0, hb1, hsz, hcase⟩; rcases hcase with ⟨rfl, hq⟩ | ⟨r, hr0, rfl, hq⟩ | ⟨rfl, hq⟩)
  · have c0 := ho1.cell 0
    have c1 := ho1.cell 1
    have d0 := ho0.cell 0
    have d1 := ho0.cell 1
    have g0 := ho0.frozen 0
    have g1 := ho0.frozen 1
    simp at c0 c1 d0 d1
    have hr := (ho0.set 0 (.int .i64 a)).set 1 (.int .i64 b)
    have r0 : ((w1.setCell ⟨w.heap.size, 0, none⟩ (.int .i64 a)).setCell ⟨w.heap.size, 1, none⟩ (.int .i64 b)).drew.cell? ⟨w.heap.size, 0, none⟩ = some (.int .i64 a) := by have := hr.cell 0; simpa using this
    have r1 : ((w1.setCell ⟨w.heap.size, 0, none⟩ (.int .i64 a)).setCell ⟨w.heap.size, 1, none⟩ (.int .i64 b)).drew.cell? ⟨w.heap.size, 1, none⟩ = some (.int .i64 b) := by have := hr.cell 1; simpa using this
    have hbf : Below w.heap.size w ((w1.setCell ⟨w.heap.size, 0, none⟩ (.int .i64 a)).setCell ⟨w.heap.size, 1, none⟩ (.int .i64 b)).drew := ((hb1.setCell (p := ⟨w.heap.size, 0, none⟩) (Nat.le_refl _) _).setCell (p := ⟨w.heap.size, 1, none⟩) (Nat.le_refl _) _).drew
    subst hq
    have hfin : HardOut w none (.returned (.tuple #[.agg #[.int .i64 a, .int .i64 b], .bool false])) ((w1.setCell ⟨w.heap.size, 0, none⟩ (.int .i64 a)).setCell ⟨w.heap.size, 1, none⟩ (.int .i64 b)).drew := ⟨⟨a, b⟩, rfl, (fun h' e => (by cases e)), hbf⟩
    have HF := hid hfin
    clear hfin hbf hr
    go_region
    all_goals
      go_wp2
      exact bodyPost_ret (v := .tuple #[.agg #[.int .i64 a, .int .i64 b], .bool false]) (by simp [results, Tryz.results106, go_sem, r0, r1]) rfl HF.out
  · have c0 := ho1.cell 0
    have c1 := ho1.cell 1
    have d0 := ho0.cell 0
    have d1 := ho0.cell 1
    have g0 := ho0.frozen 0
    have g1 := ho0.frozen 1
    simp at c0 c1 d0 d1
    have hr := (ho0.set 0 (.int .i64 a)).set 1 (.int .i64 b)
    have r0 : ((w1.setCell ⟨w.heap.size, 0, none⟩ (.int .i64 a)).setCell ⟨w.heap.size, 1, none⟩ (.int .i64 b)).drew.cell? ⟨w.heap.size, 0, none⟩ = some (.int .i64 a) := by have := hr.cell 0; simpa using this
    have r1 : ((w1.setCell ⟨w.heap.size, 0, none⟩ (.int .i64 a)).setCell ⟨w.heap.size, 1, none⟩ (.int .i64 b)).drew.cell? ⟨w.heap.size, 1, none⟩ = some (.int .i64 b) := by have := hr.cell 1; simpa using this
    have hbf : Below w.heap.size w ((w1.setCell ⟨w.heap.size, 0, none⟩ (.int .i64 a)).setCell ⟨w.heap.size, 1, none⟩ (.int .i64 b)).drew := ((hb1.setCell (p := ⟨w.heap.size, 0, none⟩) (Nat.le_refl _) _).setCell (p := ⟨w.heap.size, 1, none⟩) (Nat.le_refl _) _).drew
    subst hq
    have hfin : HardOut w none (.returned (.tuple #[.agg #[.int .i64 a, .int .i64 b], .bool false])) ((w1.setCell ⟨w.heap.size, 0, none⟩ (.int .i64 a)).setCell ⟨w.heap.size, 1, none⟩ (.int .i64 b)).drew := ⟨⟨a, b⟩, rfl, (fun h' e => (by cases e)), hbf⟩
    have HF := hid hfin
    clear hfin hbf hr
    have hne : (mk r).toList ≠ [] := by rw [Lib.toList_data, mk_data]; exact hr0
    have hne2 : ((mk r).toList == []) = false := by simpa using hne
    have hne3 : (mk r).toList.isEmpty = false := by simpa using hne
    clear hr0
    generalize mk r = rb at *
    go_region
    all_goals
      go_wp2
      exact bodyPost_ret (v := .tuple #[.agg #[.int .i64 a, .int .i64 b], .bool false]) (by simp [results, Tryz.results106, go_sem, r0, r1]) rfl HF.out
  · have c0 := ho1.cell 0
    have c1 := ho1.cell 1
    have d0 := ho0.cell 0
    have d1 := ho0.cell 1
    have g0 := ho0.frozen 0
    have g1 := ho0.frozen 1
    simp at c0 c1 d0 d1
    have hw : ∀ w2, Below w1.drew.heap.size w1.drew w2 → (w2.cell? ⟨w.heap.size + 1, 0, none⟩ = some (.int .i64 a) ∧ w2.cell? ⟨w.heap.size + 1, 1, none⟩ = some (.int .i64 b) ∧ w2.cell? ⟨w.heap.size, 0, none⟩ = some (.int .i64 0) ∧ w2.cell? ⟨w.heap.size, 1, none⟩ = some (.int .i64 0) ∧ w2.frozen? ⟨w.heap.size, 0, none⟩ = false ∧ w2.frozen? ⟨w.heap.size, 1, none⟩ = false) ∧
        (((w2.setCell ⟨w.heap.size, 0, none⟩ (.int .i64 a)).setCell ⟨w.heap.size, 1, none⟩ (.int .i64 b)).cell? ⟨w.heap.size, 0, none⟩ = some (.int .i64 a) ∧ ((w2.setCell ⟨w.heap.size, 0, none⟩ (.int .i64 a)).setCell ⟨w.heap.size, 1, none⟩ (.int .i64 b)).cell? ⟨w.heap.size, 1, none⟩ = some (.int .i64 b)) ∧
        HardOut w q (.returned (.tuple #[.agg #[.int .i64 a, .int .i64 b], .bool (hdB ⟨a, b⟩)])) ((w2.setCell ⟨w.heap.size, 0, none⟩ (.int .i64 a)).setCell ⟨w.heap.size, 1, none⟩ (.int .i64 b)) := fun w2 hb2 => by
      have o1 : own w2 (w.heap.size + 1) _ _ := ho1.same (hb2.block _ (by show _ < w1.heap.size; omega))
      have o0 : own w2 w.heap.size _ _ := ho0.same (hb2.block _ (by show _ < w1.heap.size; omega))
      have hr := (o0.set 0 (.int .i64 a)).set 1 (.int .i64 b)
      refine ⟨⟨(o1.cell 0).trans rfl, (o1.cell 1).trans rfl, (o0.cell 0).trans rfl, (o0.cell 1).trans rfl, o0.frozen 0, o0.frozen 1⟩, ⟨(hr.cell 0).trans rfl, (hr.cell 1).trans rfl⟩, ⟨a, b⟩, ?_, fun h' e => ?_, ?_⟩
      · rw [hq]; cases hdB ⟨a, b⟩ <;> rfl
      · rw [hq] at e
        split at e
        · cases e; rfl
        · cases e
      · have hb : Below w.heap.size w w2 := hb1.drew.trans (hb2.mono hb1.drew.size)
        exact (hb.setCell (p := ⟨w.heap.size, 0, none⟩) (Nat.le_refl _) _).setCell (p := ⟨w.heap.size, 1, none⟩) (Nat.le_refl _) _
    have HW := hid hw
    have HFt := hid (fun wx => hardFits_any ⟨a, b⟩ wx)
    clear hw hq
    generalize hdB ⟨a, b⟩ = qb at *
    go_region_with (go_at_call 47; (with_reducible refine (HFt.out _).mono ?_); rintro e w2 ⟨rfl, hb2⟩; obtain ⟨⟨c0', c1', d0', d1', g0', g1'⟩, ⟨r0, r1⟩, hp⟩ := HW.out _ hb2; have HP := hid hp; clear hp)
    all_goals
      go_wp2
      exact bodyPost_ret (v := .tuple #[.agg #[.int .i64 a, .int .i64 b], .bool qb]) (by simp [results, Tryz.results106, go_sem, r0, r1]) rfl HP.out
end Go.Proofs.YtgchdlfoehlomaaGreatDoor

