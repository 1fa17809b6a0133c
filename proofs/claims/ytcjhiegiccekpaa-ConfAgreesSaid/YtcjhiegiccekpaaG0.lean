/-
  GENERAL (any layer from 5 on; not beside Base/Chg of layers 1 to 4): small laws of worlds: what has turned (Chg, grow), blocks known whole (own), rows and maps that stay.
-/
import Derived.Test.YtcjhiegiccekpaaProg
import Derived.WalkKit
import Derived.KernelRfl
import Derived.Laws.OwnMore
import Derived.Deep.QuietTactic
import Derived.BigQuiet
import Derived.BigRegion
import Derived.Deep.RegionWith
import Derived.Deep.AppendLies
import Derived.Maps.RangeWalk
import Derived.Maps.OwnSet
import Derived.WalkMore
import Derived.Lib.Builder
import Derived.Lib.SliceRun
import Derived.Lib.Hide
namespace Go.Proofs.Ytcjhiegiccekpaa
open Go.RowKit
set_option linter.unusedVariables false
set_option maxRecDepth 100000

theorem hid {p : Prop} (h : p) : Hid p := h
theorem ownsRow_below {w w' : World} {B B' : Nat} {e : TypeId} {size : Nat} {v : Value} {n : Nat} {xs : List Value} (h : w.ownsRow B e size v n xs) (hb : Below B' w w') (hB : w.heap.size ≤ B') : w'.ownsRow B e size v n xs := by
  refine h.kept (row := none) ⟨hb.os, hb.tape, hb.output, hb.size, fun k hk _ => hb.block k (by omega)⟩ ?_
  cases hv : v.ownBlock <;> simp
/-- A contract that leaves the world, inside a region that draws its order. -/
theorem quiet_eq {P : Program} {f : FuncId} {args : Array Value} {w : World} {n : Nat} {v : Value}
    (h : Calls P f args (w.drewN n) fun e w' => e = .returned v ∧ w.drewN n = w') : Calls P f args (w.drewN n) fun e w'' => e = .returned v ∧ ∃ m, w'' = w.drewN m :=
  h.mono fun _ _ ⟨he, hm⟩ => ⟨he, n, hm.symm⟩
theorem below_drew {B : Nat} {a w : World} (h : Below B a w) (n : Nat) : Below B a (w.drewN n) := h.trans ⟨rfl, rfl, rfl, Nat.le_refl _, fun _ _ => rfl⟩
theorem setCell_cell {w : World} {g k j : Nat} {v u : Value} (hk : w.cell? ⟨g, k, none⟩ = some u) : (w.setCell ⟨g, k, none⟩ v).cell? ⟨g, j, none⟩ = if j = k then some v else w.cell? ⟨g, j, none⟩ := by
  unfold World.cell? at hk
  cases hg : w.heap[g]? with
  | none => simp [hg] at hk
  | some o =>
    cases o with
    | cells cs t fr =>
      simp [hg] at hk
      have hlt : k < cs.size := by
        rcases Nat.lt_or_ge k cs.size with h | h
        · exact h
        · simp [Array.getElem?_eq_none h] at hk
      simp only [World.cell?, World.setCell, Array.getElem?_modify, hg]
      by_cases h : j = k
      · subst h; simp [hlt]
      · simp [h, Ne.symm h]
    | _ => simp [hg] at hk
theorem setCell_frozen (w : World) (g k : Nat) (v : Value) (a : Addr) : (w.setCell ⟨g, k, none⟩ v).frozen? a = w.frozen? a := by
  simp only [World.frozen?, World.setCell, Array.getElem?_modify]
  by_cases h : g = a.block
  · rw [if_pos h]
    cases hg : w.heap[a.block]? with
    | none => rfl
    | some o => cases o <;> rfl
  · rw [if_neg h]
theorem drewN_zero (w : World) : w = w.drewN 0 := rfl
/-- Of what was there, only blocks of S have turned. -/
structure Chg (S : Nat → Prop) (w w' : World) : Prop where
  os : w'.os = w.os
  tape : w'.tape = w.tape
  output : w'.output = w.output
  size : w.heap.size ≤ w'.heap.size
  block : ∀ b, b < w.heap.size → ¬ S b → w'.heap[b]? = w.heap[b]?
/-- S, and what has been laid since. -/
def grow (S : Nat → Prop) (w w' : World) : Nat → Prop := fun b => S b ∨ (w.heap.size ≤ b ∧ b < w'.heap.size)

theorem Chg.refl (S : Nat → Prop) (w : World) : Chg S w w := ⟨rfl, rfl, rfl, Nat.le_refl _, fun _ _ _ => rfl⟩
theorem Chg.trans {S T : Nat → Prop} {a b c : World} (h : Chg S a b) (k : Chg T b c) (hT : ∀ x, T x → S x ∨ a.heap.size ≤ x) : Chg S a c :=
  ⟨k.os.trans h.os, k.tape.trans h.tape, k.output.trans h.output, Nat.le_trans h.size k.size, fun x hx hs =>
    (k.block x (Nat.lt_of_lt_of_le hx h.size) (fun ht => by rcases hT x ht with h1 | h1; exact hs h1; omega)).trans (h.block x hx hs)⟩
theorem Chg.mono {S T : Nat → Prop} {w w' : World} (h : Chg S w w') (hs : ∀ x, S x → T x) : Chg T w w' := ⟨h.os, h.tape, h.output, h.size, fun b hb ht => h.block b hb (fun k => ht (hs b k))⟩
theorem Chg.of_below {S : Nat → Prop} {w w' : World} (h : Below w.heap.size w w') : Chg S w w' := ⟨h.os, h.tape, h.output, h.size, fun b hb _ => h.block b hb⟩
theorem Chg.below {S : Nat → Prop} {w w' : World} {B : Nat} (h : Chg S w w') (hB : B ≤ w.heap.size) (hS : ∀ b, S b → B ≤ b) : Below B w w' :=
  ⟨h.os, h.tape, h.output, h.size, fun b hb => h.block b (by omega) (fun k => by have := hS b k; omega)⟩
theorem Chg.of_grown {w w' : World} {row : Option Nat} (h : w.grownBy w' row) : Chg (fun b => row = some b) w w' := ⟨h.os, h.tape, h.output, h.size, fun b hb hn => h.block b hb (fun e => hn e.symm)⟩
theorem Chg.setCell (w : World) (p : Addr) (u : Value) : Chg (fun b => b = p.block) w (w.setCell p u) := ⟨rfl, rfl, rfl, by simp [World.setCell], fun b hb hn => Below.heap_setCell _ _ _ _ hn⟩
theorem Chg.alloc (S : Nat → Prop) (w : World) (o : Obj) : Chg S w (w.alloc o) := ⟨rfl, rfl, rfl, by simp, fun b hb _ => Below.heap_alloc _ _ _ hb⟩
theorem Chg.drewN {S : Nat → Prop} {a w : World} (h : Chg S a w) (n : Nat) : Chg S a (w.drewN n) := ⟨h.os, h.tape, h.output, h.size, h.block⟩
theorem setCell_size (w : World) (p : Addr) (u : Value) : (w.setCell p u).heap.size = w.heap.size := by simp [World.setCell]
theorem Chg.keep {S T : Nat → Prop} {w w' : World} (h : Chg S w w') (hT : ∀ b, T b → b < w.heap.size ∧ ¬ S b) : ∀ b, T b → w'.heap[b]? = w.heap[b]? := fun b hb => h.block b (hT b hb).1 (hT b hb).2
theorem grow_mono {S : Nat → Prop} {w w' : World} : ∀ b, S b → grow S w w' b := fun b h => .inl h
theorem grow_lt {S : Nat → Prop} {w w' : World} (hS : ∀ b, S b → b < w.heap.size) (hs : w.heap.size ≤ w'.heap.size) : ∀ b, grow S w w' b → b < w'.heap.size := fun b h => by
  rcases h with h | h
  · have := hS b h; omega
  · exact h.2
theorem grow_ge {S : Nat → Prop} {w w' : World} {B : Nat} (hS : ∀ b, S b → B ≤ b) (hB : B ≤ w.heap.size) : ∀ b, grow S w w' b → B ≤ b := fun b h => by
  rcases h with h | h
  · exact hS b h
  · omega

/-- A block of cells, known whole. -/
def own (w : World) (b : Nat) (cs : Array Value) (T : TypeId) : Prop := w.heap[b]? = some (.cells cs T (0, 0))
theorem own.cell {w : World} {b : Nat} {cs : Array Value} {T : TypeId} (h : own w b cs T) (k : Nat) : w.cell? ⟨b, k, none⟩ = cs[k]? := Lib.cell_of_heap h k
theorem own.frozen {w : World} {b : Nat} {cs : Array Value} {T : TypeId} (h : own w b cs T) (k : Nat) : w.frozen? ⟨b, k, none⟩ = false := Lib.frozen_of_heap h k
theorem own.lt {w : World} {b : Nat} {cs : Array Value} {T : TypeId} (h : own w b cs T) : b < w.heap.size := (Array.getElem?_eq_some_iff.1 h).1
theorem own.set {w : World} {b : Nat} {cs : Array Value} {T : TypeId} (h : own w b cs T) (k : Nat) (v : Value) : own (w.setCell ⟨b, k, none⟩ v) b (cs.setIfInBounds k v) T := by
  unfold own at *
  simp [World.setCell, Array.getElem?_modify, h]
theorem own.other {w : World} {b : Nat} {cs : Array Value} {T : TypeId} (h : own w b cs T) {p : Addr} (hp : b ≠ p.block) (v : Value) : own (w.setCell p v) b cs T := by
  unfold own at *
  rw [Below.heap_setCell _ _ _ _ hp]; exact h
theorem own.new (w : World) (cs : Array Value) (T : TypeId) : own (w.alloc (.cells cs T)) w.heap.size cs T := heap_alloc_new w _
theorem own.chg {w w' : World} {S : Nat → Prop} {b : Nat} {cs : Array Value} {T : TypeId} (h : own w b cs T) (hc : Chg S w w') (hb : ¬ S b) : own w' b cs T := by
  unfold own at *
  rw [hc.block b (Array.getElem?_eq_some_iff.1 h).1 hb]; exact h
theorem own.same {w w' : World} {b : Nat} {cs : Array Value} {T : TypeId} (h : own w b cs T) (hb : w'.heap[b]? = w.heap[b]?) : own w' b cs T := by
  unfold own at *
  rw [hb]; exact h

theorem ownsRow_same {w w' : World} {B : Nat} {e : TypeId} {size : Nat} {v : Value} {n : Nat} {xs : List Value} (h : w.ownsRow B e size v n xs) (hs : ∀ b, v.ownBlock = some b → w'.heap[b]? = w.heap[b]?) : w'.ownsRow B e size v n xs := by
  obtain ⟨h1, h2⟩ := h
  refine ⟨h1, ?_⟩
  rcases h2 with h2 | ⟨g, cap, cur, hv, hB, hg, h3⟩
  · exact .inl h2
  · exact .inr ⟨g, cap, cur, hv, hB, by rw [hs g (by rw [hv]; rfl)]; exact hg, h3⟩
theorem ownsMap_same {H : Type} {w w' : World} {P : Program} {k : TypeId} {R : Value → Option (DataW H × List MemPlace)} {b n : Nat} {D : DataW H} (h : w.ownsMap P k R b n D) (hs : w'.heap[b]? = w.heap[b]?) : w'.ownsMap P k R b n D := by
  obtain ⟨es, clock, hb, r⟩ := h
  exact ⟨es, clock, by rw [hs]; exact hb, r⟩
theorem ownsMap_tight {H : Type} {w : World} {P : Program} {k : TypeId} {R : Value → Option (DataW H × List MemPlace)} {b n : Nat} {D : DataW H} (h : w.ownsMap P k R b n D) : w.ownsMap P k R b (Maps.size D) D := by
  obtain ⟨es, clock, hb, F, _, rfl⟩ := h
  exact ⟨es, clock, hb, F, by simp [Maps.size, length_sorted], rfl⟩
theorem mapTurned_chg {w w' : World} {b : Nat} (h : w.mapTurned w' b) : Chg (fun x => x = b) w w' := (Chg.of_grown h.grown).mono (fun x e => by cases e; rfl)
theorem mapTurned_size {w w' : World} {b : Nat} (h : w.mapTurned w' b) : w'.heap.size = w.heap.size := by
  obtain ⟨es, clock, es', clock', hb, rfl⟩ := h
  simp [ChangeMaps.setBlock]

end Go.Proofs.Ytcjhiegiccekpaa
