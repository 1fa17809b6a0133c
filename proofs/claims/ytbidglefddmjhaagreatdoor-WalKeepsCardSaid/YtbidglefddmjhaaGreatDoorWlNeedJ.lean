import Derived.Test.YtbidglefddmjhaaGreatDoorWlScanJ
/-
  LAYER 3 (wal): needed's closure.
-/
namespace Go.Proofs.YtbidglefddmjhaaGreatDoor
open Go.RowKit Go.Maps
set_option linter.unusedVariables false
set_option maxRecDepth 100000

def isBig (i : Int) : Rc → Bool
  | .entry e => decide (i < e.idx)
  | _ => false
/-- The two cells that needed's closure holds. -/
structure NeedAt (w : World) (pf pi : Nat) (b : Bool) (i : Int) : Prop where
  f : own w pf #[.bool b] 4
  x : own w pi #[.int .i64 i] 3
  ne : pf ≠ pi
def NeedPost (w : World) (pf pi : Nat) (b : Bool) (i : Int) (e : Ending) (w' : World) : Prop := e = .returned (.tuple #[]) ∧ NeedAt w' pf pi b i ∧ Chg (fun x => x = pf) w w'
set_option maxHeartbeats 4000000 in
theorem need1_any {w : World} {pf pi : Nat} {b : Bool} {i : Int} (h : NeedAt w pf pi b i) (k : Int) (hh : Hd) (x : En) (r : Rc) (hr : RcIs k hh x r) :
    Calls Tryz.prog 159 #[.agg (rcells k hh x).toArray, .pointer (some ⟨pf, 0, none⟩), .pointer (some ⟨pi, 0, none⟩)] w (NeedPost w pf pi (b || isBig i r) i) := by
  have hpf := h.f.lt
  have hpi := h.x.lt
  have c0 := h.f.cell 0
  have c1 := h.x.cell 0
  have f0 := h.f.frozen 0
  simp at c0 c1
  have hfin : ∀ b', b' = (b || isBig i r) → NeedPost w pf pi (b || isBig i r) i (.returned (.tuple #[])) ((w.setCell ⟨pf, 0, none⟩ (.bool b')).alloc (.cells (rcells k hh x).toArray 198)) := by
    rintro b' rfl
    have hal : Below (w.setCell ⟨pf, 0, none⟩ (.bool (b || isBig i r))).heap.size (w.setCell ⟨pf, 0, none⟩ (.bool (b || isBig i r))) ((w.setCell ⟨pf, 0, none⟩ (.bool (b || isBig i r))).alloc (.cells (rcells k hh x).toArray 198)) := Below.alloc (Below.refl _ _) (Nat.le_refl _) _
    have o1 := h.f.set 0 (.bool (b || isBig i r))
    have o2 := h.x.other (p := ⟨pf, 0, none⟩) (fun e => h.ne e.symm) (.bool (b || isBig i r))
    refine ⟨rfl, ⟨?_, ?_, h.ne⟩, (Chg.setCell w ⟨pf, 0, none⟩ _).trans (Chg.of_below hal (S := fun x => x = pf)) (fun x e => .inl e)⟩
    · exact own.same (by simpa using o1) (hal.block _ (by rw [setCell_size]; exact hpf))
    · exact own.same o2 (hal.block _ (by rw [setCell_size]; exact hpi))
  have HF := hid hfin
  unfold rcells at *
  clear hfin
  by_cases hb : b = true
  · subst hb
    have HF2 := hid (HF.out true (by simp))
    clear HF h hr
    go_enter Tryz.func159, Tryz.ntmps159
    go_wp2
    go_end0
    exact HF2.out
  · obtain rfl : b = false := by simpa using hb
    cases r with
    | hard h' =>
      obtain ⟨rfl, -⟩ := hr
      have HF2 := hid (HF.out false (by simp [isBig]))
      clear HF h
      go_enter Tryz.func159, Tryz.ntmps159
      go_wp2
      go_end0
      exact HF2.out
    | reset =>
      obtain rfl : k = 3 := hr
      have HF2 := hid (HF.out false (by simp [isBig]))
      clear HF h
      go_enter Tryz.func159, Tryz.ntmps159
      go_wp2
      go_end0
      exact HF2.out
    | entry e' =>
      obtain ⟨rfl, rfl⟩ := hr
      by_cases hi : i < x.idx
      · have HF2 := hid (HF.out true (by simp [isBig, hi]))
        have hd : decide (i < x.idx) = true := decide_eq_true hi
        clear HF h
        go_enter Tryz.func159, Tryz.ntmps159
        go_wp2
        go_end0
        exact HF2.out
      · have HF2 := hid (HF.out false (by simp [isBig, hi]))
        have hd : decide (i < x.idx) = false := decide_eq_false hi
        clear HF h
        go_enter Tryz.func159, Tryz.ntmps159
        go_wp2
        go_end0
        exact HF2.out
end Go.Proofs.YtbidglefddmjhaaGreatDoor

