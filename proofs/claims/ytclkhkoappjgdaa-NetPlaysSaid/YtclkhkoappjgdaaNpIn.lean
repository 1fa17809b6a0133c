/-
  LAYER 6 (net), THE PROGRAM: among; the net in memory; New, Split, Whole, Lost, Flight.
-/
import Derived.Test.YtclkhkoappjgdaaNpRep
import Derived.Deep.DeepCutAuto
namespace Go.Proofs.Ytclkhkoappjgdaa
open Go.RowKit Go.Maps
set_option linter.unusedVariables false
set_option maxRecDepth 100000

def AmRel (w : World) (xs : List Int) (u : Value) (wr : World) : Prop :=
  ∃ (k n : Nat) (D : MD), k ≤ xs.length ∧ u = .int .i64 k ∧ own wr (w.heap.size + 1) #[.map (some w.heap.size)] 63 ∧ wr.ownsMap Try.prog 3 UE w.heap.size n D ∧ n ≤ k ∧ Mem D (xs.take k) ∧ Below w.heap.size w wr
def AmPost (w : World) (xs : List Int) (e : Ending) (w' : World) : Prop :=
  ∃ c T, e = .returned (.func (.func 39) #[] #[.pointer (some ⟨c, 0, none⟩)]) ∧ InAt w' T (.func (.func 39) #[] #[.pointer (some ⟨c, 0, none⟩)]) xs ∧ Below w.heap.size w w' ∧ ∀ b, T b → w.heap.size ≤ b ∧ b < w'.heap.size
set_option maxHeartbeats 2000000 in
theorem among_any {w : World} {gv : Value} {xs : List Int} (h : RAt numTy w gv xs) (hx : ∀ n ∈ xs, I64' n) (hl : xs.length ≤ 1000) :
    Calls Try.prog 35 #[gv] w (AmPost w xs) := by
  obtain ⟨ao, cap, rfl, hat⟩ := nums_at h
  have hz : (w.alloc (.map #[] 0)).heap.size = w.heap.size + 1 := by simp
  have hb0 : Below w.heap.size w ((w.alloc (.map #[] 0)).alloc (.cells #[.map (some w.heap.size)] 63)) := ((Below.refl _ w).alloc (Nat.le_refl _) _).alloc (by simp) _
  have hStart : Hid (AmRel w xs (.int .i64 0) ((w.alloc (.map #[] 0)).alloc (.cells #[.map (some w.heap.size)] 63))) := hid ⟨0, 0, .map [], Nat.zero_le _, rfl, by rw [← hz]; exact own.new _ _ _, (World.ownsMap_made w Try.prog 3 UE).alloc _, Nat.le_refl _, by rw [List.take_zero]; exact mem_nil, hb0⟩
  have hStart2 : Hid (AmRel w xs (.int .i64 0) (((w.alloc (.map #[] 0)).alloc (.cells #[.map none] 63)).setCell ⟨(w.alloc (.map #[] 0)).heap.size, 0, none⟩ (.map (some w.heap.size)))) := hid ⟨0, 0, .map [], Nat.zero_le _, rfl, by rw [← hz]; exact (own.new (w.alloc (.map #[] 0)) #[.map none] 63).set 0 _, ((World.ownsMap_made w Try.prog 3 UE).alloc _).setCell (by simp) _, Nat.le_refl _, by rw [List.take_zero]; exact mem_nil, (((Below.refl _ w).alloc (Nat.le_refl _) _).alloc (by simp) _).setCell (by simp) _⟩
  have HAt : Hid (∀ wr, Below w.heap.size w wr → ∀ k, k < xs.length → ∃ sb so, ao = some ⟨sb, so, none⟩ ∧ wr.cell? ⟨sb, so + k, none⟩ = some (.int .i64 (xs.getD k 0))) := hid (fun wr hb k hk => by
    obtain ⟨sb, so, e, hlt, hc⟩ := hat k hk
    exact ⟨sb, so, e, (hb.cell (p := ⟨sb, so + k, none⟩) hlt).trans hc⟩)
  have HX := hid hx
  have HFin : Hid (∀ wr, AmRel w xs (.int .i64 (xs.length : Int)) wr → AmPost w xs (.returned (.func (.func 39) #[] #[.pointer (some ⟨w.heap.size + 1, 0, none⟩)])) wr) := hid (fun wr hq => by
    obtain ⟨k, n, D, hk, e, h1, h2, h3, h4, h5⟩ := hq
    obtain rfl : k = xs.length := by cases e; omega
    rw [List.take_of_length_le (Nat.le_refl _)] at h4
    have z1 := h1.lt
    have z2 := isMap_lt h2
    exact ⟨w.heap.size + 1, fun b => b = w.heap.size ∨ b = w.heap.size + 1, rfl, .inr ⟨w.heap.size + 1, w.heap.size, n, D, rfl, h1, h2, h4, .inr rfl, .inl rfl⟩, h5, fun b hb => by omega⟩)
  have hmk : ∀ wx : World, (Instr.makeMap 63 none).run Try.prog wx = .ok (.map (some wx.heap.size)) (wx.alloc (.map #[] 0)) := fun _ => rfl
  clear hat hx h hb0
  go_enter Try.func35, Try.ntmps35
  go_wp2
  go_loopw [9] (AmRel w xs) (fun i _ => xs.length - (intOf i).toNat)
  case atStart => first | exact hStart.out | exact hStart2.out | (simpa using hStart2.out)
  case round =>
    obtain ⟨k, n, D, hk, rfl, h1, h2, h3, h4, h5⟩ := hrel
    by_cases hkl : k < xs.length
    · obtain ⟨sb, so, rfl, c1⟩ := HAt.out _ h5 k hkl
      have hkI : (k : Int) < (xs.length : Int) := by omega
      have hget : xs.getD k 0 = xs[k] := by simp [List.getD, hkl]
      have hin : I64' (xs.getD k 0) := HX.out _ (by rw [hget]; exact List.getElem_mem hkl)
      have c2 : wr.cell? ⟨w.heap.size + 1, 0, none⟩ = some (.map (some w.heap.size)) := (h1.cell 0).trans rfl
      obtain ⟨w3, hrun, hown3, hturn⟩ := h2.store keyedInt Try.underlying63 (by unfold maxLen; omega) (keyInt hin) (val := .agg #[]) (d := .agg []) (ps := []) unitElem_mk
      have HR : Hid (AmRel w xs (.int .i64 ((k + 1 : Nat) : Int)) w3) := hid ⟨k + 1, n + 1, _, by omega, rfl, h1.chg (mapTurned_chg hturn) (by omega), hown3, by omega, by
        rw [List.take_add_one, List.getElem?_eq_getElem hkl, ← hget]
        exact h4.snoc _, h5.trans ((mapTurned_chg hturn).below h5.size (fun b e => by rw [e]; exact Nat.le_refl _))⟩
      clear h1 h2 h4 hown3 hturn h5 hget hin
      generalize xs.getD k 0 = x at *
      go_wp2
      go_roundw
      case rel =>
        have := HR.out
        rw [show ((k + 1 : Nat) : Int) = (k : Int) + 1 by omega] at this
        exact this
      case measure => simp [intOf]; omega
    · obtain rfl : k = xs.length := by omega
      have HR : Hid (AmRel w xs (.int .i64 (xs.length : Int)) wr) := hid ⟨_, n, D, hk, rfl, h1, h2, h3, h4, h5⟩
      clear h1 h2 h3 h4 h5
      go_wp2
      go_ret
      exact HFin.out _ HR.out
end Go.Proofs.Ytclkhkoappjgdaa
