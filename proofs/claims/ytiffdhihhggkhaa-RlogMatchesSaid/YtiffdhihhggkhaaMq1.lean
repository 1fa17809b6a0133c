/-
  Chg, G0, GRow, GInts, GArgs, GBuild, Clone, GDel, GClear, GPut, in one text.
-/
import Derived.Test.YtiffdhihhggkhaaMq0
import Derived.Maps.RangeWalk
import Derived.WalkKit
import Derived.KernelRfl
import Derived.Laws.OwnMore
import Derived.Deep.QuietTactic
import Derived.BigQuiet
import Derived.BigRegion
import Derived.Deep.RegionWith
import Derived.Deep.AppendLies
import Derived.Maps.OwnSet
import Derived.WalkMore
import Derived.Lib.Builder
import Derived.Lib.SliceRun
import Derived.Lib.Hide
import Derived.Deep.Slices
import Derived.Deep.Fields
import Derived.ChangeSame
import Derived.Lib.SmallJoins
import Derived.Lib.BufferWrite
import Derived.Lib.UnsafeStr
/-
  SMALL LAWS THAT EVERY LAYER WITH OBJECTS USES: what a call may turn ('Chg S w w'': the blocks of S, and new ones); a block known whole ('own').
-/
namespace Go.Proofs.Ytiffdhihhggkhaa
open Go.RowKit
set_option linter.unusedVariables false
set_option maxRecDepth 100000

/-- Of what was there, only blocks of S have turned. -/
structure Chg (S : Nat → Prop) (w w' : World) : Prop where
  os : w'.os = w.os
  tape : w'.tape = w.tape
  output : w'.output = w.output
  size : w.heap.size ≤ w'.heap.size
  block : ∀ b, b < w.heap.size → ¬ S b → w'.heap[b]? = w.heap[b]?
/-- S, and what has been laid since. -/
def grow (S : Nat → Prop) (w w' : World) : Nat → Prop := fun b => S b ∨ (w.heap.size ≤ b ∧ b < w'.heap.size)

theorem Chg.refl (S : Nat → Prop) (w : World) : Chg S w w := ⟨rfl, rfl, rfl, Nat.le_refl _, fun _ _ _ => rfl⟩
theorem Chg.trans {S T : Nat → Prop} {a b c : World} (h : Chg S a b) (k : Chg T b c) (hT : ∀ x, T x → S x ∨ a.heap.size ≤ x) : Chg S a c :=
  ⟨k.os.trans h.os, k.tape.trans h.tape, k.output.trans h.output, Nat.le_trans h.size k.size, fun x hx hs =>
    (k.block x (Nat.lt_of_lt_of_le hx h.size) (fun ht => by rcases hT x ht with h1 | h1; exact hs h1; omega)).trans (h.block x hx hs)⟩
theorem Chg.mono {S T : Nat → Prop} {w w' : World} (h : Chg S w w') (hs : ∀ x, S x → T x) : Chg T w w' := ⟨h.os, h.tape, h.output, h.size, fun b hb ht => h.block b hb (fun k => ht (hs b k))⟩
theorem Chg.of_below {S : Nat → Prop} {w w' : World} (h : Below w.heap.size w w') : Chg S w w' := ⟨h.os, h.tape, h.output, h.size, fun b hb _ => h.block b hb⟩
theorem Chg.below {S : Nat → Prop} {w w' : World} {B : Nat} (h : Chg S w w') (hB : B ≤ w.heap.size) (hS : ∀ b, S b → B ≤ b) : Below B w w' :=
  ⟨h.os, h.tape, h.output, h.size, fun b hb => h.block b (by omega) (fun k => by have := hS b k; omega)⟩
theorem Chg.of_grown {w w' : World} {row : Option Nat} (h : w.grownBy w' row) : Chg (fun b => row = some b) w w' := ⟨h.os, h.tape, h.output, h.size, fun b hb hn => h.block b hb (fun e => hn e.symm)⟩
theorem Chg.setCell (w : World) (p : Addr) (u : Value) : Chg (fun b => b = p.block) w (w.setCell p u) := ⟨rfl, rfl, rfl, by simp [World.setCell], fun b hb hn => Below.heap_setCell _ _ _ _ hn⟩
theorem Chg.alloc (S : Nat → Prop) (w : World) (o : Obj) : Chg S w (w.alloc o) := ⟨rfl, rfl, rfl, by simp, fun b hb _ => Below.heap_alloc _ _ _ hb⟩
theorem Chg.drewN {S : Nat → Prop} {a w : World} (h : Chg S a w) (n : Nat) : Chg S a (w.drewN n) := ⟨h.os, h.tape, h.output, h.size, h.block⟩
theorem setCell_size (w : World) (p : Addr) (u : Value) : (w.setCell p u).heap.size = w.heap.size := by simp [World.setCell]
theorem Chg.keep {S T : Nat → Prop} {w w' : World} (h : Chg S w w') (hT : ∀ b, T b → b < w.heap.size ∧ ¬ S b) : ∀ b, T b → w'.heap[b]? = w.heap[b]? := fun b hb => h.block b (hT b hb).1 (hT b hb).2
theorem grow_mono {S : Nat → Prop} {w w' : World} : ∀ b, S b → grow S w w' b := fun b h => .inl h
theorem grow_lt {S : Nat → Prop} {w w' : World} (hS : ∀ b, S b → b < w.heap.size) (hs : w.heap.size ≤ w'.heap.size) : ∀ b, grow S w w' b → b < w'.heap.size := fun b h => by
  rcases h with h | h
  · have := hS b h; omega
  · exact h.2
theorem grow_ge {S : Nat → Prop} {w w' : World} {B : Nat} (hS : ∀ b, S b → B ≤ b) (hB : B ≤ w.heap.size) : ∀ b, grow S w w' b → B ≤ b := fun b h => by
  rcases h with h | h
  · exact hS b h
  · omega

/-- A block of cells, known whole. -/
def own (w : World) (b : Nat) (cs : Array Value) (T : TypeId) : Prop := w.heap[b]? = some (.cells cs T (0, 0))
theorem own.cell {w : World} {b : Nat} {cs : Array Value} {T : TypeId} (h : own w b cs T) (k : Nat) : w.cell? ⟨b, k, none⟩ = cs[k]? := Lib.cell_of_heap h k
theorem own.frozen {w : World} {b : Nat} {cs : Array Value} {T : TypeId} (h : own w b cs T) (k : Nat) : w.frozen? ⟨b, k, none⟩ = false := Lib.frozen_of_heap h k
theorem own.lt {w : World} {b : Nat} {cs : Array Value} {T : TypeId} (h : own w b cs T) : b < w.heap.size := (Array.getElem?_eq_some_iff.1 h).1
theorem own.set {w : World} {b : Nat} {cs : Array Value} {T : TypeId} (h : own w b cs T) (k : Nat) (v : Value) : own (w.setCell ⟨b, k, none⟩ v) b (cs.setIfInBounds k v) T := by
  unfold own at *
  simp [World.setCell, Array.getElem?_modify, h]
theorem own.other {w : World} {b : Nat} {cs : Array Value} {T : TypeId} (h : own w b cs T) {p : Addr} (hp : b ≠ p.block) (v : Value) : own (w.setCell p v) b cs T := by
  unfold own at *
  rw [Below.heap_setCell _ _ _ _ hp]; exact h
theorem own.new (w : World) (cs : Array Value) (T : TypeId) : own (w.alloc (.cells cs T)) w.heap.size cs T := heap_alloc_new w _
theorem own.chg {w w' : World} {S : Nat → Prop} {b : Nat} {cs : Array Value} {T : TypeId} (h : own w b cs T) (hc : Chg S w w') (hb : ¬ S b) : own w' b cs T := by
  unfold own at *
  rw [hc.block b (Array.getElem?_eq_some_iff.1 h).1 hb]; exact h
theorem own.same {w w' : World} {b : Nat} {cs : Array Value} {T : TypeId} (h : own w b cs T) (hb : w'.heap[b]? = w.heap[b]?) : own w' b cs T := by
  unfold own at *
  rw [hb]; exact h

theorem ownsRow_same {w w' : World} {B : Nat} {e : TypeId} {size : Nat} {v : Value} {n : Nat} {xs : List Value} (h : w.ownsRow B e size v n xs) (hs : ∀ b, v.ownBlock = some b → w'.heap[b]? = w.heap[b]?) : w'.ownsRow B e size v n xs := by
  obtain ⟨h1, h2⟩ := h
  refine ⟨h1, ?_⟩
  rcases h2 with h2 | ⟨g, cap, cur, hv, hB, hg, h3⟩
  · exact .inl h2
  · exact .inr ⟨g, cap, cur, hv, hB, by rw [hs g (by rw [hv]; rfl)]; exact hg, h3⟩
theorem ownsMap_same {H : Type} {w w' : World} {P : Program} {k : TypeId} {R : Value → Option (DataW H × List MemPlace)} {b n : Nat} {D : DataW H} (h : w.ownsMap P k R b n D) (hs : w'.heap[b]? = w.heap[b]?) : w'.ownsMap P k R b n D := by
  obtain ⟨es, clock, hb, r⟩ := h
  exact ⟨es, clock, by rw [hs]; exact hb, r⟩
theorem ownsMap_tight {H : Type} {w : World} {P : Program} {k : TypeId} {R : Value → Option (DataW H × List MemPlace)} {b n : Nat} {D : DataW H} (h : w.ownsMap P k R b n D) : w.ownsMap P k R b (Maps.size D) D := by
  obtain ⟨es, clock, hb, F, _, rfl⟩ := h
  exact ⟨es, clock, hb, F, by simp [Maps.size, length_sorted], rfl⟩
theorem mapTurned_chg {w w' : World} {b : Nat} (h : w.mapTurned w' b) : Chg (fun x => x = b) w w' := (Chg.of_grown h.grown).mono (fun x e => by cases e; rfl)
theorem mapTurned_size {w w' : World} {b : Nat} (h : w.mapTurned w' b) : w'.heap.size = w.heap.size := by
  obtain ⟨es, clock, es', clock', hb, rfl⟩ := h
  simp [ChangeMaps.setBlock]

/-- One segment of a row of numbers exchanged for another. -/
theorem nodup_swap {A X Y B : List Nat} {N : Nat} (h : (A ++ (X ++ B)).Nodup) (hY : Y.Nodup) (hlt : ∀ b ∈ A ++ (X ++ B), b < N) (hsub : ∀ b ∈ Y, b ∈ X ∨ N ≤ b) : (A ++ (Y ++ B)).Nodup := by
  rw [List.nodup_append] at h ⊢
  obtain ⟨hA, hXB, hd⟩ := h
  rw [List.nodup_append] at hXB ⊢
  obtain ⟨hX, hB, hd2⟩ := hXB
  refine ⟨hA, ⟨hY, hB, fun b hb c hc e => ?_⟩, fun b hb c hc e => ?_⟩
  · subst e
    rcases hsub b hb with h1 | h1
    · exact hd2 b h1 b hc rfl
    · have := hlt b (by simp [hc]); omega
  · subst e
    rcases List.mem_append.1 hc with hc | hc
    · rcases hsub b hc with h1 | h1
      · exact hd b hb b (by simp [h1]) rfl
      · have := hlt b (by simp [hb]); omega
    · exact hd b hb b (by simp [hc]) rfl
end Go.Proofs.Ytiffdhihhggkhaa

/-
  GENERAL, for a seat that holds the codec (stages 3, 4, 7 ..): what G0 says stands in Base and Chg there: this text only imports.
-/

/-
  GENERAL: rows of things, each of so many cells (structs of one-cell fields, ints, texts): rows that the call has made (ROwn) and rows that lie anywhere (RAt); cut, put behind one another, one cell turned.
-/
namespace Go.Proofs.Ytiffdhihhggkhaa
open Go.RowKit
set_option linter.unusedVariables false
set_option maxRecDepth 100000

/-- How a thing lies in a row: the slice's type, its element's, how many cells, how many bytes, the cells, the zero. -/
structure RowTy (α : Type) where
  st : TypeId
  el : TypeId
  n : Nat
  bytes : Nat
  cs : α → List Value
  zero : Value
structure RowTy.Ok {α : Type} (R : RowTy α) : Prop where
  len : ∀ x, (R.cs x).length = R.n
  one : ∀ x, ∀ u ∈ R.cs x, u.oneCell' = true
  pos : 0 < R.n
  under : Try.prog.underlying R.st = some (.slice R.el)
  info : (Try.prog.info? R.el).map (fun i => (i.zero, i.size, i.bytes)) = some (some R.zero, R.n, R.bytes)
  elem : Try.prog.elem R.st = R.el
  zs : R.zero.cells.size = R.n
  small : R.bytes ≤ 1000
section
variable {α : Type} {R : RowTy α}
theorem RowTy.Ok.parts (o : R.Ok) : ∃ i, Try.prog.info? R.el = some i ∧ i.zero = some R.zero ∧ i.size = R.n ∧ i.bytes = R.bytes := by
  obtain ⟨i, hi, hz⟩ := Option.map_eq_some_iff.1 o.info
  simp only [Prod.mk.injEq] at hz
  exact ⟨i, hi, hz.1, hz.2.1, hz.2.2⟩
def RowTy.flat (R : RowTy α) (L : List α) : List Value := L.flatMap R.cs
theorem flat_nil : R.flat [] = [] := rfl
theorem flat_cons (x : α) (r : List α) : R.flat (x :: r) = R.cs x ++ R.flat r := rfl
theorem flat_append (A C : List α) : R.flat (A ++ C) = R.flat A ++ R.flat C := by simp [RowTy.flat]
theorem flat_length (o : R.Ok) (L : List α) : (R.flat L).length = L.length * R.n := by
  induction L with
  | nil => simp [RowTy.flat]
  | cons x r ih => rw [flat_cons, List.length_append, ih, o.len, List.length_cons, Nat.add_mul, Nat.one_mul, Nat.add_comm]
theorem flat_one (o : R.Ok) (L : List α) : ∀ u ∈ R.flat L, u.oneCell' = true := by
  intro u hu
  obtain ⟨x, _, hx⟩ := List.mem_flatMap.1 hu
  exact o.one x u hx
theorem flat_get (o : R.Ok) : ∀ {L : List α} {i j : Nat} {x : α} {u : Value}, L[i]? = some x → (R.cs x)[j]? = some u → (R.flat L)[i * R.n + j]? = some u
  | [], i, j, x, u, hi, hj => by simp at hi
  | y :: r, 0, j, x, u, hi, hj => by
    simp at hi; subst hi
    have hlt : j < (R.cs y).length := (List.getElem?_eq_some_iff.1 hj).1
    rw [flat_cons, Nat.zero_mul, Nat.zero_add, List.getElem?_append_left hlt]
    exact hj
  | y :: r, i + 1, j, x, u, hi, hj => by
    rw [flat_cons, List.getElem?_append_right (by rw [o.len, Nat.add_mul]; omega), o.len]
    have : (i + 1) * R.n + j - R.n = i * R.n + j := by rw [Nat.add_mul]; omega
    rw [this]
    exact flat_get o (by simpa using hi) hj
theorem flat_take (o : R.Ok) (L : List α) : ∀ k, R.flat (L.take k) = (R.flat L).take (k * R.n)
  | 0 => by simp [RowTy.flat]
  | k + 1 => by
    cases L with
    | nil => simp [RowTy.flat]
    | cons e r =>
      rw [List.take_succ_cons, flat_cons, flat_cons, flat_take o r k, show (k + 1) * R.n = (R.cs e).length + k * R.n by rw [o.len, Nat.add_mul]; omega, List.take_length_add_append]
theorem flat_drop (o : R.Ok) (L : List α) : ∀ k, R.flat (L.drop k) = (R.flat L).drop (k * R.n)
  | 0 => by simp
  | k + 1 => by
    cases L with
    | nil => simp [RowTy.flat]
    | cons e r =>
      rw [List.drop_succ_cons, flat_cons, flat_drop o r k, show (k + 1) * R.n = (R.cs e).length + k * R.n by rw [o.len, Nat.add_mul]; omega, ← List.drop_drop, List.drop_left]
theorem flat_put (o : R.Ok) : ∀ {L : List α} {i j : Nat} {x x' : α} {u : Value}, L[i]? = some x → j < R.n → R.cs x' = (R.cs x).set j u → R.flat (L.set i x') = (R.flat L).set (i * R.n + j) u
  | [], i, j, x, x', u, hi, hj, hx => by simp at hi
  | y :: r, 0, j, x, x', u, hi, hj, hx => by
    simp at hi; subst hi
    rw [List.set_cons_zero, flat_cons, flat_cons, hx, Nat.zero_mul, Nat.zero_add, List.set_append, if_pos (by rw [o.len]; exact hj)]
  | y :: r, i + 1, j, x, x', u, hi, hj, hx => by
    rw [List.set_cons_succ, flat_cons, flat_cons, flat_put o (by simpa using hi) hj hx, List.set_append, if_neg (by rw [o.len, Nat.add_mul]; omega), o.len]
    congr 2
    rw [Nat.add_mul]; omega

/-- A row that lies somewhere, and is read. -/
def RAt (R : RowTy α) (w : World) (v : Value) (L : List α) : Prop :=
  ∃ a cap, v = .slice a L.length cap ∧ L.length ≤ cap ∧ (a = none → cap = 0) ∧ cap ≤ maxLen ∧ (L ≠ [] → ∃ sb so, a = some ⟨sb, so, none⟩ ∧ sb < w.heap.size ∧ ∀ j u, (R.flat L)[j]? = some u → w.cell? ⟨sb, so + j, none⟩ = some u)
theorem RAt.same {w w' : World} {v : Value} {L : List α} (h : RAt R w v L) (hs : ∀ b, v.ownBlock = some b → b < w.heap.size → w'.heap[b]? = w.heap[b]?) (hz : w.heap.size ≤ w'.heap.size) : RAt R w' v L := by
  obtain ⟨a, cap, rfl, h1, h2, h3, h4⟩ := h
  refine ⟨a, cap, rfl, h1, h2, h3, fun hne => ?_⟩
  obtain ⟨sb, so, rfl, hlt, hc⟩ := h4 hne
  refine ⟨sb, so, rfl, by omega, fun j u hj => ?_⟩
  have := hc j u hj
  unfold World.cell? at *
  rw [hs sb rfl hlt]
  exact this
theorem RAt.below {w w' : World} {v : Value} {L : List α} (h : RAt R w v L) (hb : Below w.heap.size w w') : RAt R w' v L := h.same (fun b _ hl => hb.block b hl) hb.size
theorem RAt.drewN {w : World} {v : Value} {L : List α} (h : RAt R w v L) (n : Nat) : RAt R (w.drewN n) v L := h
/-- Its shape, and the cells of each of its things (the address as the walk spells it, but for 'R.n'). -/
theorem RAt.at (o : R.Ok) {w : World} {v : Value} {L : List α} (h : RAt R w v L) : ∃ a cap, v = .slice a L.length cap ∧ L.length ≤ cap ∧ (a = none → cap = 0) ∧ ∀ (k : Nat) x, L[k]? = some x → ∃ sb so, a = some ⟨sb, so, none⟩ ∧ sb < w.heap.size ∧ ∀ j u, (R.cs x)[j]? = some u → w.cell? ⟨sb, so + k * R.n + j, none⟩ = some u := by
  obtain ⟨a, cap, rfl, h1, h2, h3, h4⟩ := h
  refine ⟨a, cap, rfl, h1, h2, fun k x hk => ?_⟩
  obtain ⟨sb, so, rfl, hlt, hc⟩ := h4 (by intro e; simp [e] at hk)
  exact ⟨sb, so, rfl, hlt, fun j u hj => by rw [Nat.add_assoc]; exact hc _ _ (flat_get o hk hj)⟩
theorem rAt_nil (w : World) : RAt R w (.slice none 0 0) [] := ⟨none, 0, rfl, Nat.le_refl _, (fun _ => rfl), Nat.zero_le _, fun h => absurd rfl h⟩
theorem rAt_own (o : R.Ok) {w : World} {b : Nat} {L : List α} {T : TypeId} {cs : Array Value} (h : own w b cs T) (hc : cs.toList = R.flat L) (n : Nat) (hn : n = L.length) (hm : n ≤ maxLen) : RAt R w (.slice (some ⟨b, 0, none⟩) n n) L := by
  subst hn
  refine ⟨some ⟨b, 0, none⟩, L.length, rfl, Nat.le_refl _, (fun e => by cases e), hm, fun _ => ⟨b, 0, rfl, h.lt, fun j u hj => ?_⟩⟩
  rw [Nat.zero_add, h.cell j, ← hj, ← hc]
  simp
theorem rAt_box (o : R.Ok) {w : World} {b : Nat} {x : α} {T : TypeId} {cs : Array Value} (h : own w b cs T) (hc : cs.toList = R.cs x) : RAt R w (.slice (some ⟨b, 0, none⟩) 1 1) [x] :=
  rAt_own o h (by rw [hc]; simp [RowTy.flat]) 1 rfl (by unfold maxLen; omega)
theorem RAt.take (o : R.Ok) {w : World} {ao : Option Addr} {n cap : Nat} {M : List α} (h : RAt R w (.slice ao n cap) M) {k : Nat} (hk : k ≤ M.length) : RAt R w (.slice ao k cap) (M.take k) := by
  obtain ⟨a, c, e, h1, h2, h3, h4⟩ := h
  cases e
  have hl : (M.take k).length = k := by rw [List.length_take]; omega
  refine ⟨ao, cap, by rw [hl], by rw [hl]; omega, h2, h3, fun hne => ?_⟩
  obtain ⟨sb, so, rfl, hlt, hc⟩ := h4 (fun e => hne (by rw [e]; simp))
  refine ⟨sb, so, rfl, hlt, fun j u hj => hc j u ?_⟩
  rw [flat_take o, List.getElem?_take] at hj
  split at hj
  · exact hj
  · cases hj
/-- What s[i:] is. -/
def RowTy.from (R : RowTy α) (ao : Option Addr) (L cap i : Nat) : Value := .slice (if cap = i then ao else ao.map (·.add (i * R.n))) (L - i) (cap - i)
theorem RAt.drop (o : R.Ok) {w : World} {ao : Option Addr} {n cap : Nat} {M : List α} (h : RAt R w (.slice ao n cap) M) {k : Nat} (hk : k ≤ M.length) : RAt R w (R.from ao n cap k) (M.drop k) ∧ ∀ b, (R.from ao n cap k).ownBlock = some b → (Value.slice ao n cap).ownBlock = some b := by
  obtain ⟨a, c, e, h1, h2, h3, h4⟩ := h
  cases e
  have hl : (M.drop k).length = M.length - k := List.length_drop
  unfold RowTy.from
  constructor
  · refine ⟨_, cap - k, by rw [hl], by rw [hl]; omega, fun e => ?_, by omega, fun hne => ?_⟩
    · by_cases hc : cap = k
      · omega
      · rw [if_neg hc] at e
        have := h2 (by simpa using e)
        omega
    · have hlt : k < M.length := by
        rcases Nat.lt_or_ge k M.length with h | h
        · exact h
        · exact absurd (List.drop_eq_nil_of_le h) hne
      obtain ⟨sb, so, rfl, hsb, hc⟩ := h4 (fun e => hne (by rw [e]; simp))
      rw [if_neg (by omega)]
      refine ⟨sb, so + k * R.n, ?_, hsb, fun j u hj => ?_⟩
      · rw [Option.map_some, Go.WideShapes.add_plain]
      · rw [flat_drop o, List.getElem?_drop] at hj
        rw [Nat.add_assoc]
        exact hc _ u hj
  · intro b hb
    split at hb
    · cases ao <;> exact hb
    · cases ao with
      | none => simp [Value.ownBlock] at hb
      | some ad =>
        simp only [Option.map_some, Value.ownBlock] at hb ⊢
        rw [← hb]
        congr 1
        unfold Addr.add
        split <;> rfl
theorem run_to (o : R.Ok) (wx : World) (ao : Option Addr) (L cap i : Nat) (hi : i ≤ cap) (hao : ao = none → cap = 0) : (Instr.slice R.st (.slice ao L cap) none (some (.int .i64 (i : Int))) none).run Try.prog wx = .ok (.slice ao i cap) wx := by
  obtain ⟨i0, hi0, _⟩ := o.parts
  cases ao with
  | none =>
    obtain rfl := hao rfl
    obtain rfl : i = 0 := by omega
    simp [go_sem, Instr.slice, run_underlying o.under, sizeOf, typeInfo, hi0, Result.andThen]
  | some q => simp [go_sem, Instr.slice, run_underlying o.under, hi, sizeOf, typeInfo, hi0, Result.andThen]
theorem run_from (o : R.Ok) (wx : World) (ao : Option Addr) (L cap i : Nat) (hi : i ≤ L) (hL : L ≤ cap) : (Instr.slice R.st (.slice ao L cap) (some (.int .i64 (i : Int))) none none).run Try.prog wx = .ok (R.from ao L cap i) wx := by
  obtain ⟨i0, hi0, _, hz1, _⟩ := o.parts
  have h := run_slice_l (P := Try.prog) wx R.st ao L cap (by rw [o.elem]; exact o.under) .i64 (i : Int) (by omega) (by omega)
  rw [h, o.elem]
  simp [RowTy.from, sizeOf, typeInfo, hi0, hz1, sliced, Result.andThen]

/-- A row that the call has made. -/
def ROwn (R : RowTy α) (w : World) (v : Value) (L : List α) : Prop := w.ownsRow 0 R.el R.n v L.length (R.flat L)
theorem ROwn.slice {w : World} {v : Value} {L : List α} (h : ROwn R w v L) : ∃ ao cap, v = .slice ao L.length cap ∧ L.length ≤ cap ∧ (ao = none → cap = 0) ∧ cap ≤ maxLen := by
  rcases h.2 with ⟨hv, hz⟩ | ⟨g, cap, cur, rfl, _, _, hnc, hcm, _⟩
  · exact ⟨none, 0, by rw [hv, hz], by omega, fun _ => rfl, Nat.zero_le _⟩
  · exact ⟨_, cap, rfl, hnc, fun e => (by cases e), hcm⟩
theorem ROwn.same {w w' : World} {v : Value} {L : List α} (h : ROwn R w v L) (hs : ∀ b, v.ownBlock = some b → w'.heap[b]? = w.heap[b]?) : ROwn R w' v L := ownsRow_same h hs
theorem ROwn.lt {w : World} {v : Value} {L : List α} (h : ROwn R w v L) : ∀ b, v.ownBlock = some b → b < w.heap.size := fun b hb => (World.ownsRow.lt h b hb).2
theorem ROwn.below {w w' : World} {v : Value} {L : List α} (h : ROwn R w v L) (hb : Below w.heap.size w w') : ROwn R w' v L := h.same (fun b e => hb.block b (h.lt b e))
theorem rOwn_nil (w : World) : ROwn R w (.slice none 0 0) [] := ⟨by simp [RowTy.flat], .inl ⟨rfl, rfl⟩⟩
theorem rOwn_empty {w : World} {g : Nat} (hg : own w g #[] R.el) : ROwn R w (.slice (some ⟨g, 0, none⟩) 0 0) [] :=
  ⟨by simp [RowTy.flat], .inr ⟨g, 0, #[], rfl, Nat.zero_le _, hg, Nat.le_refl _, Nat.zero_le _, by simp, by simp [RowTy.flat]⟩⟩
theorem rOwn_made (o : R.Ok) {w : World} {g : Nat} {L : List α} {cs : Array Value} (hg : own w g cs R.el) (hc : cs.toList = R.flat L) (n : Nat) (hn : n = L.length) (hm : n ≤ maxLen) : ROwn R w (.slice (some ⟨g, 0, none⟩) n n) L := by
  subst hn
  have hs : cs.size = L.length * R.n := by rw [← Array.length_toList, hc, flat_length o]
  exact ⟨flat_length o L, .inr ⟨g, L.length, cs, rfl, Nat.zero_le _, hg, Nat.le_refl _, hm, hs, by rw [hc, List.take_of_length_le (by rw [flat_length o]; exact Nat.le_refl _)]⟩⟩
theorem ROwn.rAt {w : World} {v : Value} {L : List α} (h : ROwn R w v L) : RAt R w v L := by
  have hlt := h.lt
  obtain ⟨ao, cap, rfl, h1, h2, h3⟩ := h.slice
  refine ⟨ao, cap, rfl, h1, h2, h3, fun hne => ?_⟩
  rcases h.2 with ⟨hv, hz⟩ | ⟨g, cap', cur, hv, _, hg, _⟩
  · exact absurd (List.length_eq_zero_iff.1 hz) hne
  · simp only [Value.slice.injEq] at hv
    obtain ⟨rfl, _, _⟩ := hv
    refine ⟨g, 0, rfl, hlt g rfl, fun j u hj => ?_⟩
    have := World.ownsRow.cells h (g := g) rfl j u hj
    rwa [Go.WideShapes.add_plain] at this
theorem ROwn.cut (o : R.Ok) {w : World} {ao : Option Addr} {n cap : Nat} {L : List α} (h : ROwn R w (.slice ao n cap) L) {k : Nat} (hk : k ≤ L.length) : ROwn R w (.slice ao k cap) (L.take k) := by
  have hl : (L.take k).length = k := by rw [List.length_take]; omega
  rcases h.2 with ⟨hv, hz⟩ | ⟨g, cap', cur, hv, hB, hg, hnc, hcm, hcs, htake⟩
  · cases hv
    have hk0 : k = 0 := by omega
    subst hk0
    exact ⟨by simp [RowTy.flat], .inl ⟨rfl, by simp⟩⟩
  · cases hv
    refine ⟨by rw [flat_length o, hl], .inr ⟨g, cap, cur, by rw [hl], hB, hg, by rw [hl]; omega, hcm, hcs, ?_⟩⟩
    rw [hl, flat_take o, ← htake, List.take_take]
    congr 1
    rw [Nat.min_eq_left (Nat.mul_le_mul_right _ hk)]
/-- Where its cells lie, and that they may be written. -/
theorem ROwn.at (o : R.Ok) {w : World} {ao : Option Addr} {n cap : Nat} {L : List α} (h : ROwn R w (.slice ao n cap) L) (h0 : 0 < L.length) : ∃ g, ao = some ⟨g, 0, none⟩ ∧ g < w.heap.size ∧
    (∀ (k : Nat) x, L[k]? = some x → ∀ j u, (R.cs x)[j]? = some u → w.cell? ⟨g, k * R.n + j, none⟩ = some u) ∧ ∀ j, w.frozen? ⟨g, j, none⟩ = false := by
  have hlt := World.ownsRow.lt h
  have hcs := fun g hg => World.ownsRow.cells h (g := g) hg
  rcases h.2 with ⟨hv, hz⟩ | ⟨g, cap', cur, hv, _, hg, _⟩
  · omega
  · simp only [Value.slice.injEq] at hv
    obtain ⟨rfl, _, _⟩ := hv
    refine ⟨g, rfl, (hlt g rfl).2, fun k x hk j u hj => ?_, fun j => Lib.frozen_of_heap hg j⟩
    have := hcs g rfl _ _ (flat_get o hk hj)
    rwa [Go.WideShapes.add_plain, Nat.zero_add] at this
/-- One cell turned. -/
theorem ROwn.put (o : R.Ok) {w : World} {g n cap : Nat} {L : List α} (h : ROwn R w (.slice (some ⟨g, 0, none⟩) n cap) L) {k j : Nat} {x x' : α} {u : Value} (hk : L[k]? = some x) (hj : j < R.n) (hx : R.cs x' = (R.cs x).set j u) :
    ROwn R (w.setCell ⟨g, k * R.n + j, none⟩ u) (.slice (some ⟨g, 0, none⟩) n cap) (L.set k x') := by
  rcases h.2 with ⟨hv, _⟩ | ⟨g', cap', cur, hv, hB, hg, hnc, hcm, hcs, htake⟩
  · cases hv
  · simp only [Value.slice.injEq, Option.some.injEq, Addr.mk.injEq] at hv
    obtain ⟨⟨rfl, _⟩, rfl, rfl⟩ := hv
    refine ⟨by rw [flat_length o], .inr ⟨g, cap, cur.setIfInBounds (k * R.n + j) u, by rw [List.length_set], hB, ?_, by rw [List.length_set]; exact hnc, hcm, by simpa using hcs, ?_⟩⟩
    · simp [World.setCell, Array.getElem?_modify, hg]
    · rw [Array.toList_setIfInBounds, List.length_set, List.take_set, htake, flat_put o hk hj hx]
/-- append(v, u..). -/
theorem run_app (o : R.Ok) (w : World) (ty : TypeId) (v u : Value) (L M : List α) (hown : ROwn R w v L) (hu : RAt R w u M) (hb : L.length + M.length ≤ 10000000) :
    ∃ ao cap w', (Builtin.append_ #[R.st, R.st] ty #[v, u]).run Try.prog w = .ok (.slice ao (L.length + M.length) cap) w' ∧ ROwn R w' (.slice ao (L.length + M.length) cap) (L ++ M) ∧ w.grownBy w' v.ownBlock ∧ ((Value.slice ao (L.length + M.length) cap).ownBlock = v.ownBlock ∨ (Value.slice ao (L.length + M.length) cap).ownBlock = some w.heap.size) := by
  obtain ⟨a, c, rfl, _, hn, _, hc⟩ := hu
  obtain ⟨i0, hi, hz0, hz1, hz2⟩ := o.parts
  cases a with
  | some ad =>
    have hcells : ∀ j x, (R.flat M)[j]? = some x → w.cell? (ad.add j) = some x := by
      intro j x hx
      obtain ⟨sb, so, e, _, hxs⟩ := hc (by intro e; subst e; simp [RowTy.flat] at hx)
      cases e
      rw [Go.WideShapes.add_plain]
      exact hxs j x hx
    have hby : (L.length + M.length) * R.bytes ≤ 140737488355328 := Nat.le_trans (Nat.mul_le_mul hb o.small) (by omega)
    obtain ⟨v', w', hrun, h2, h3, _, h5⟩ := run_append_own_at (P := Try.prog) w 0 R.st ty R.el i0 R.zero R.n R.bytes o.under hi hz0 hz1 hz2 o.zs o.pos v L.length (R.flat L) hown ad M.length c (R.flat M) (flat_length o M) hcells (flat_one o M) (by unfold maxLen; omega) hby (Nat.zero_le _)
    have hrow : ROwn R w' v' (L ++ M) := by
      unfold ROwn
      rw [List.length_append, flat_append]
      exact h2
    obtain ⟨ao, cap, rfl, _, _⟩ := hrow.slice
    rw [List.length_append] at hrun hrow h5
    exact ⟨ao, cap, w', hrun, hrow, h3, h5⟩
  | none =>
    have hM : M = [] := by
      by_cases h : M = []
      · exact h
      · obtain ⟨_, _, e, _⟩ := hc h
        cases e
    subst hM
    obtain ⟨ao, cap, hv, hnc', _⟩ := hown.slice
    subst hv
    refine ⟨ao, cap, w, ?_, by simpa using hown, World.grownBy.refl w _, .inl rfl⟩
    rcases hown.2 with ⟨hv, h0⟩ | ⟨g, cap', cur, hv, _, _, hnc, _⟩
    · simp only [Value.slice.injEq] at hv
      obtain ⟨rfl, e1, rfl⟩ := hv
      simp [e1, Builtin.append_, run_underlying o.under, sizeOf, typeInfo, hi, Builtin.lenOf, Builtin.firstCells]
    · simp only [Value.slice.injEq] at hv
      obtain ⟨rfl, _, rfl⟩ := hv
      simp [Builtin.append_, run_underlying o.under, sizeOf, typeInfo, hi, Builtin.lenOf, Builtin.firstCells, hnc, storeCells]
/-- A row that was made since w. -/
structure RMid (R : RowTy α) (w wr : World) (v : Value) (L : List α) : Prop where
  row : ROwn R wr v L
  new : ∀ b, v.ownBlock = some b → w.heap.size ≤ b
  below : Below w.heap.size w wr
theorem rMid_nil (w : World) : RMid R w w (.slice none 0 0) [] := ⟨rOwn_nil w, fun b e => by simp [Value.ownBlock] at e, Below.refl _ _⟩
theorem RMid.later {w wr wy : World} {v : Value} {L : List α} (h : RMid R w wr v L) (hb : Below wr.heap.size wr wy) : RMid R w wy v L := ⟨h.row.below hb, h.new, h.below.trans (hb.mono h.below.size)⟩
theorem rMid_empty {w wx : World} {g : Nat} (hb : Below w.heap.size w wx) (hg : own wx g #[] R.el) (h : w.heap.size ≤ g) : RMid R w wx (.slice (some ⟨g, 0, none⟩) 0 0) [] := ⟨rOwn_empty hg, fun b e => by cases e; exact h, hb⟩
theorem RMid.app (o : R.Ok) {w wx : World} {v u : Value} {L M : List α} (ty : TypeId) (h : RMid R w wx v L) (hu : RAt R wx u M) (hl : L.length + M.length ≤ 10000000) :
    ∃ ao cap w5, (Builtin.append_ #[R.st, R.st] ty #[v, u]).run Try.prog wx = .ok (.slice ao (L.length + M.length) cap) w5 ∧ RMid R w w5 (.slice ao (L.length + M.length) cap) (L ++ M) ∧ (∀ b, b < wx.heap.size → v.ownBlock ≠ some b → w5.heap[b]? = wx.heap[b]?) := by
  have hw := h.below.size
  obtain ⟨ao, cap, w5, hr, hrow, hg, hat⟩ := run_app o wx ty v u L M h.row hu hl
  refine ⟨ao, cap, w5, hr, ⟨hrow, fun b e => ?_, h.below.grown hg hw h.new⟩, fun b hb hne => (Chg.of_grown hg).block b hb hne⟩
  rcases hat with k | k
  · exact h.new b (by rw [← k]; exact e)
  · rw [k] at e; cases e; omega
/-- One thing put behind: its box has just been laid. -/
theorem RMid.push (o : R.Ok) {w wr : World} {v : Value} {L : List α} (h : RMid R w wr v L) (ty T : TypeId) (x : α) (cs : Array Value) (hc : cs.toList = R.cs x) (hl : L.length ≤ 1000000) :
    ∃ ao cap w5, (Builtin.append_ #[R.st, R.st] ty #[v, .slice (some ⟨wr.heap.size, 0, none⟩) 1 1]).run Try.prog (wr.alloc (.cells cs T)) = .ok (.slice ao (L.length + 1) cap) w5 ∧ RMid R w w5 (.slice ao (L.length + 1) cap) (L ++ [x]) := by
  have hb : Below wr.heap.size wr (wr.alloc (.cells cs T)) := (Below.refl _ _).alloc (Nat.le_refl _) _
  obtain ⟨ao, cap, w5, hr, hm, _⟩ := (h.later hb).app o ty (rAt_box o (own.new wr cs T) hc) (by simp; omega)
  exact ⟨ao, cap, w5, hr, hm⟩
end

/-- A call of append at the operation (no drawn region), by an equation on its run; the world and what is read as equations of their own. -/
theorem wpList_append_at {w wx w' : World} {ops : Array Oper} {rest : List Oper} {o : Oper} {a : Act} {Q : Exit → Act → World → Prop} {t u ty : TypeId} {v s v' : Value} (hr : (Builtin.append_ #[t, u] ty #[v, s]).run Try.prog wx = .ok v' w')
    (hw : w = wx) (hgd : o.guard = none) (sl x : Operand) (ho : o.op = .call { callee := .builtin .append, args := #[sl, x], argTypes := #[t, u] }) (hty : o.type = ty) (hs : a.eval sl = v) (hx : a.eval x = s)
    (h : wpList Try.prog ops Q rest (a.put o.dst v') w') : wpList Try.prog ops Q (o :: rest) a w := by
  subst hw hty
  refine wpList_plain hgd fun K hK => ?_
  unfold Oper.wp execOp
  simp only [ho, resolve, invoke, builtin, Sem.run_bind, Sem.run_pure, Result.andThen_ok, List.map_toArray, List.map_cons, List.map_nil, hs, hx, hr]
  exact hK _ _ h
/-- .. in a drawn region. -/
theorem step_append_at {ops : Array Oper} {o : Oper} {a : Act} {w wx w' : World} {K : Act → World → Prop} {Q : Exit → Act → World → Prop} {E : Prop} {t u ty : TypeId} {v y v' : Value} (hr : (Builtin.append_ #[t, u] ty #[v, y]).run Try.prog wx = .ok v' w')
    (hw : w = wx) (hg : o.guard = none) (s x : Operand) (hop : o.op = Op.call { callee := Callee.builtin Builtin.append, args := #[s, x], argTypes := #[t, u] }) (hty : o.type = ty)
    (hs : a.eval s = v) (hx : a.eval x = y) (hK : K (a.put o.dst v') w') :
    if Region.wanted o (yielded ops a.tmps) = true then Oper.wp Try.prog o a w K Q else E := by
  subst hw hty
  have hw : Region.wanted o (yielded ops a.tmps) = true := by simp [Region.wanted, hg]
  rw [if_pos hw]
  unfold Oper.wp
  simp [execOp, hop, resolve, invoke, builtin, hs, hx, hr, Result.andThen]
  exact hK
end Go.Proofs.Ytiffdhihhggkhaa

/-
  GENERAL: rows of ints.
-/
namespace Go.Proofs.Ytiffdhihhggkhaa
open Go.RowKit
set_option linter.unusedVariables false
set_option maxRecDepth 100000

def numTy : RowTy Int := ⟨31, 3, 1, 8, fun x => [.int .i64 x], .int .i64 0⟩
theorem numTy_ok : numTy.Ok := ⟨fun _ => rfl, fun x u hu => by simp [numTy] at hu; subst hu; rfl, by decide, Try.underlying31, by kernel_rfl, by kernel_rfl, rfl, by decide⟩
theorem num_flat (xs : List Int) : numTy.flat xs = xs.map (.int .i64) := by
  induction xs with
  | nil => rfl
  | cons x r ih => rw [flat_cons, ih]; rfl
/-- Where the k-th int lies. -/
theorem nums_at {w : World} {v : Value} {xs : List Int} (h : RAt numTy w v xs) : ∃ a cap, v = .slice a xs.length cap ∧ ∀ k, k < xs.length → ∃ sb so, a = some ⟨sb, so, none⟩ ∧ sb < w.heap.size ∧ w.cell? ⟨sb, so + k, none⟩ = some (.int .i64 (xs.getD k 0)) := by
  obtain ⟨a, cap, rfl, _, _, hc⟩ := h.at numTy_ok
  refine ⟨a, cap, rfl, fun k hk => ?_⟩
  obtain ⟨sb, so, e, hlt, h1⟩ := hc k (xs.getD k 0) (by simp [List.getD, hk])
  have := h1 0 _ rfl
  rw [show numTy.n = 1 from rfl, Nat.mul_one, Nat.add_zero] at this
  exact ⟨sb, so, e, hlt, this⟩
/-- A literal row that has just been laid. -/
theorem nums_lit (w : World) (xs : List Int) (T : TypeId) (n : Nat) (hn : n = xs.length) (hm : n ≤ maxLen) : RAt numTy (w.alloc (.cells (xs.map (Value.int .i64)).toArray T)) (.slice (some ⟨w.heap.size, 0, none⟩) n n) xs :=
  rAt_own numTy_ok (own.new w (xs.map (Value.int .i64)).toArray T) (by rw [num_flat]) n hn hm
def I64' (n : Int) : Prop := -9223372036854775808 ≤ n ∧ n ≤ 9223372036854775807
end Go.Proofs.Ytiffdhihhggkhaa

/-
  GENERAL: arguments that are slices of ints, of texts, of structs of one-cell fields: as their reading gives them, rows that lie somewhere.
-/
namespace Go.Proofs.Ytiffdhihhggkhaa
open Go.ChangeShapes Go.WideShapes Go.ChangeAt Go.RowKit
open Go.WideMaps Go.WideElems Go.Deep Go.Joins
set_option linter.unusedVariables false
set_option maxRecDepth 100000

theorem cellsInt' : Try.prog.cellsOf 3 = 1 := by kernel_rfl
/-- A list of what is there for each number. -/
theorem listOf {α : Type} {n : Nat} {Q : Nat → α → Prop} (h : ∀ i, i < n → ∃ x, Q i x) : ∃ l : List α, l.length = n ∧ ∀ i x, l[i]? = some x → Q i x := by
  have : ∀ k, k ≤ n → ∃ l : List α, l.length = k ∧ ∀ i x, l[i]? = some x → Q i x := by
    intro k
    induction k with
    | zero => intro _; exact ⟨[], rfl, by simp⟩
    | succ k ih =>
      intro hk
      obtain ⟨l, hl', hA⟩ := ih (by omega)
      obtain ⟨ac, hac⟩ := h k (by omega)
      refine ⟨l ++ [ac], by simp [hl'], fun i x hx => ?_⟩
      by_cases hi : i < l.length
      · rw [List.getElem?_append_left hi] at hx; exact hA i x hx
      · rw [List.getElem?_append_right (by omega)] at hx
        have : i = k := by
          rcases Nat.eq_or_lt_of_le (Nat.le_of_not_lt hi) with h | h
          · omega
          · rw [List.getElem?_eq_none (by simp; omega)] at hx; cases hx
        subst this
        rw [hl', Nat.sub_self] at hx
        simp at hx
        subst hx
        exact hac
  exact this n (Nat.le_refl _)
/-- The cells of a row, thing by thing, make the row. -/
theorem rAt_of_cells {α : Type} {R : RowTy α} (o : R.Ok) {w : World} {a : Addr} {L : List α} {cap : Nat} (hl : L.length ≤ cap) (hm : cap ≤ maxLen)
    (h : ∀ (k : Nat) x, L[k]? = some x → ∀ j u, (R.cs x)[j]? = some u → w.cell? (a.add (k * R.n + j)) = some u) : RAt R w (.slice (some a) L.length cap) L := by
  refine ⟨some a, cap, rfl, hl, (fun e => by cases e), hm, fun hne => ?_⟩
  have hpos : 0 < L.length := List.length_pos_iff.2 hne
  have h0 : 0 < (R.cs L[0]).length := by rw [o.len]; exact o.pos
  have c0 := h 0 L[0] (by simp [hpos]) 0 _ (List.getElem?_eq_getElem h0)
  obtain ⟨b, off, spot⟩ := a
  have hspot : spot = none := by simpa [Addr.add] using World.cell?_spot c0
  subst hspot
  have hadd : ∀ k, (⟨b, off, none⟩ : Addr).add k = ⟨b, off + k, none⟩ := fun k => Go.WideShapes.add_plain ..
  rw [hadd] at c0
  refine ⟨b, off, rfl, World.block_lt_of_cell? w _ c0, fun j u hj => ?_⟩
  have hjl : j < L.length * R.n := by rw [← flat_length o]; exact (List.getElem?_eq_some_iff.1 hj).1
  have hq : j / R.n < L.length := Nat.div_lt_of_lt_mul (by rw [Nat.mul_comm]; exact hjl)
  have hr : j % R.n < R.n := Nat.mod_lt _ o.pos
  have hj2 : j / R.n * R.n + j % R.n = j := by rw [Nat.mul_comm]; exact Nat.div_add_mod j R.n
  have hu : (R.cs L[j / R.n])[j % R.n]? = some u := by
    have hlen : j % R.n < (R.cs L[j / R.n]).length := by rw [o.len]; exact hr
    have h1 := flat_get o (List.getElem?_eq_getElem hq) (List.getElem?_eq_getElem hlen)
    rw [hj2, hj] at h1
    rw [List.getElem?_eq_getElem hlen, Option.some.inj h1]
  have := h _ _ (List.getElem?_eq_getElem hq) _ _ hu
  rw [hj2, hadd] at this
  exact this
theorem nums_arg {H : Type} {enc : TypeId × Value → H} {W : World} {base : Nat} {v : Value} {d : DataW H} {p : List MemPlace} (ho : Value.okWide Try.prog W .any base 31 v)
    (h : DataW.Trod enc Try.prog W 0 (fun _ => true) true 31 v d p) :
    ∃ xs : List Int, RAt numTy W v xs ∧ (∀ n ∈ xs, I64' n) ∧ xs.length ≤ maxLen := by
  obtain ⟨a0, len, cap, rfl⟩ := okWide_slice Try.underlying31 ho
  obtain ⟨fuel, hf⟩ := h
  rcases open_ints Try.underlying31 Try.underlying3 cellsInt' hf with ⟨hcs, hx⟩ | ⟨a, len', cap', zs, hcs, hl0, hl, hm, hz, hx, hcell, hwz⟩
  · simp [Value.cells] at hcs
    obtain ⟨rfl, rfl, rfl⟩ := hcs
    exact ⟨[], rAt_nil W, by simp, by simp⟩
  · simp [Value.cells] at hcs
    obtain ⟨rfl, rfl, rfl⟩ := hcs
    simp only [if_true] at hz
    have hlen : (zs.take len).length = len := by rw [List.length_take]; omega
    refine ⟨zs.take len, ?_, ?_, by omega⟩
    · have := rAt_of_cells numTy_ok (w := W) (a := a) (L := zs.take len) (cap := cap) (by omega) (by omega) (fun k x hk j u hj => by
        have hkl : k < len := by
          rcases Nat.lt_or_ge k len with h | h
          · exact h
          · rw [List.getElem?_eq_none (by rw [hlen]; exact h)] at hk; cases hk
        simp [numTy] at hj
        have hj0 : j = 0 := by
          rcases Nat.eq_zero_or_pos j with h | h
          · exact h
          · rw [List.getElem?_eq_none (by simp; omega)] at hj; cases hj
        subst hj0
        simp at hj
        subst hj
        rw [show numTy.n = 1 from rfl, Nat.mul_one, Nat.add_zero, hcell k (by omega)]
        rw [List.getElem?_take_of_lt hkl] at hk
        simp [List.getD, hk])
      rw [hlen] at this
      exact this
    · intro n hn
      have := hwz n (List.mem_of_mem_take hn)
      simpa [I64', Lit.wf, IntKind.min, IntKind.max, IntKind.signed, IntKind.bits] using this
section
variable {H : Type} {enc : TypeId × Value → H} {P : Program} {w : World} {base : Nat} {spare : Nat → Bool} {held : Bool}
theorem openFields {t e : TypeId} {fs : Array Field} {fuel : Nat} {cs : List Value} {x : DataW H × List MemPlace} (ht : P.underlying t = some (.slice e)) (he : P.underlying e = some (.struct fs))
    (hone : oneCellFields P fs = true) (hC : P.cellsOf e = fs.size) (h : DataW.trod enc P w base spare held fuel t cs = some x) :
    (cs = [.slice none 0 0] ∧ x = (.nil, [])) ∨
    ∃ (a : Addr) (len cap m : Nat), cs = [.slice (some a) len cap] ∧ len ≤ cap ∧ cap ≤ maxLen ∧ m = (if spare a.block then cap else len) ∧
      ∀ i, i < m → ∃ (ys : List (DataW H × List MemPlace)) (n : Nat), ys.length = fs.size ∧
        ∀ (j : Nat) (f : Field), fs[j]? = some f → ∃ (v : Value) (y : DataW H × List MemPlace), w.cell? (a.add (i * fs.size + j)) = some v ∧ DataW.trod enc P w base spare held n f.type [v] = some y := by
  rcases open_slice ht h with h0 | ⟨a, len, cap, m, n, D, Pl, hcs, hb, hl, hm, hmm, hx, hi⟩
  · exact .inl h0
  · refine .inr ⟨a, len, cap, m, hcs, hl, hm, hmm, fun i him => ?_⟩
    obtain ⟨cs', hc, ht'⟩ := hi i him
    rw [hC] at hc
    obtain ⟨ys, n', hn', hy, hlen, hyl, hf⟩ := DataW.trod_struct he ht'
    obtain ⟨_, hcl, hat⟩ := World.cells?_some hc
    refine ⟨ys, n', hyl, fun j f hj => ?_⟩
    obtain ⟨ho, hk⟩ := hone_of hone j f hj
    have hjl : j < fs.size := (Array.getElem?_eq_some_iff.1 hj).1
    have hcell := hat j hjl
    have hv : cs'[j]? = some (cs'[j]'(by omega)) := List.getElem?_eq_getElem (by omega)
    have h1 := hf j f hj
    rw [ho, hk] at h1
    have hone' : (cs'.drop j).take 1 = [cs'[j]'(by omega)] := by
      rw [List.drop_eq_getElem_cons (by omega)]
      rfl
    rw [hone'] at h1
    have hys : ys[j]? = some (ys[j]'(by omega)) := List.getElem?_eq_getElem (by omega)
    refine ⟨_, _, ?_, h1.trans hys⟩
    rw [← Go.Deep.add_add, hcell, hv]
end
/-- A slice of structs of one-cell fields: 'hx' says what a struct's cells are, out of how each of its fields reads. -/
theorem structs_arg {α : Type} {R : RowTy α} (o : R.Ok) {H : Type} {enc : TypeId × Value → H} {W : World} {base : Nat} {v : Value} {d : DataW H} {p : List MemPlace} (ho : Value.okWide Try.prog W .any base R.st v)
    (h : DataW.Trod enc Try.prog W 0 (fun _ => true) true R.st v d p) {fs : Array Field} (he : Try.prog.underlying R.el = some (.struct fs)) (hone : oneCellFields Try.prog fs = true) (hC : Try.prog.cellsOf R.el = fs.size) (hn : fs.size = R.n)
    (In : α → Prop) (hx : ∀ c : Nat → Value, (∀ (j : Nat) (f : Field), fs[j]? = some f → ∃ n y, DataW.trod enc Try.prog W 0 (fun _ => true) true n f.type [c j] = some y) → ∃ x : α, In x ∧ ∀ j u, (R.cs x)[j]? = some u → c j = u) :
    ∃ l : List α, RAt R W v l ∧ (∀ a ∈ l, In a) ∧ l.length ≤ maxLen := by
  obtain ⟨a0, len, cap, rfl⟩ := okWide_slice o.under ho
  obtain ⟨fuel, hf⟩ := h
  rcases openFields o.under he hone hC hf with ⟨hcs, _⟩ | ⟨a, len', cap', m, hcs, hl, hm, hmm, hel⟩
  · simp [Value.cells] at hcs
    obtain ⟨rfl, rfl, rfl⟩ := hcs
    exact ⟨[], rAt_nil W, by simp, by simp⟩
  · simp [Value.cells] at hcs
    obtain ⟨rfl, rfl, rfl⟩ := hcs
    simp only [if_true] at hmm
    subst hmm
    obtain ⟨l, hll, hA⟩ := listOf (n := len) (Q := fun i (x : α) => In x ∧ ∀ j u, (R.cs x)[j]? = some u → W.cell? (a.add (i * R.n + j)) = some u) (fun i hi => by
      obtain ⟨ys, n, _, hfs⟩ := hel i (by omega)
      obtain ⟨x, h1, h2⟩ := hx (fun j => (W.cell? (a.add (i * R.n + j))).getD undef) (fun j f hj => by
        obtain ⟨v, y, e1, e2⟩ := hfs j f hj
        rw [hn] at e1
        exact ⟨n, y, by rw [e1]; exact e2⟩)
      refine ⟨x, h1, fun j u hj => ?_⟩
      have hjn : j < R.n := by rw [← o.len x]; exact (List.getElem?_eq_some_iff.1 hj).1
      obtain ⟨v, y, e1, e2⟩ := hfs j fs[j] (Array.getElem?_eq_getElem (by omega))
      rw [hn] at e1
      have := h2 j u hj
      rw [e1] at this ⊢
      simp at this
      rw [this])
    refine ⟨l, ?_, fun ac hac => ?_, by omega⟩
    · have := rAt_of_cells o (w := W) (a := a) (L := l) (cap := m) (by omega) (by omega) (fun k x hk => (hA k x hk).2)
      rw [hll] at this
      exact this
    · obtain ⟨i, hi, rfl⟩ := List.getElem_of_mem hac
      exact (hA i l[i] (by simp [hi])).1
theorem trodInt {H : Type} {enc : TypeId × Value → H} {W : World} {n : Nat} {v : Value} {y : DataW H × List MemPlace} (h : DataW.trod enc Try.prog W 0 (fun _ => true) true n 3 [v] = some y) :
    ∃ k : Int, v = .int .i64 k ∧ I64' k := by
  obtain ⟨k, hcs, hx, hw⟩ := DataW.trod_int Try.underlying3 h
  simp at hcs
  refine ⟨k, hcs, ?_⟩
  simpa [I64', Lit.wf, IntKind.min, IntKind.max, IntKind.signed, IntKind.bits] using hw
theorem trodStr {H : Type} {enc : TypeId × Value → H} {W : World} {n : Nat} {v : Value} {y : DataW H × List MemPlace} (h : DataW.trod enc Try.prog W 0 (fun _ => true) true n 9 [v] = some y) :
    ∃ s : ByteArray, v = .string s ∧ s.size ≤ maxLen := by
  obtain ⟨s, hcs, hx, hw⟩ := DataW.trod_string Try.underlying9 h
  simp at hcs
  exact ⟨s, hcs, hw⟩
theorem trodNums {H : Type} {enc : TypeId × Value → H} {W : World} {n : Nat} {v : Value} {y : DataW H × List MemPlace} (hf : DataW.trod enc Try.prog W 0 (fun _ => true) true n 31 [v] = some y) :
    ∃ xs : List Int, RAt numTy W v xs ∧ (∀ n ∈ xs, I64' n) ∧ xs.length ≤ maxLen := by
  rcases open_ints Try.underlying31 Try.underlying3 cellsInt' hf with ⟨hcs, hx⟩ | ⟨a, len, cap, zs, hcs, hl0, hl, hm, hz, hx, hcell, hwz⟩
  · simp at hcs
    subst hcs
    exact ⟨[], rAt_nil W, by simp, by simp⟩
  · simp at hcs
    subst hcs
    simp only [if_true] at hz
    have hlen : (zs.take len).length = len := by rw [List.length_take]; omega
    refine ⟨zs.take len, ?_, ?_, by omega⟩
    · have := rAt_of_cells numTy_ok (w := W) (a := a) (L := zs.take len) (cap := cap) (by omega) (by omega) (fun k x hk j u hj => by
        have hkl : k < len := by
          rcases Nat.lt_or_ge k len with h | h
          · exact h
          · rw [List.getElem?_eq_none (by rw [hlen]; exact h)] at hk; cases hk
        simp [numTy] at hj
        have hj0 : j = 0 := by
          rcases Nat.eq_zero_or_pos j with h | h
          · exact h
          · rw [List.getElem?_eq_none (by simp; omega)] at hj; cases hj
        subst hj0
        simp at hj
        subst hj
        rw [show numTy.n = 1 from rfl, Nat.mul_one, Nat.add_zero, hcell k (by omega)]
        rw [List.getElem?_take_of_lt hkl] at hk
        simp [List.getD, hk])
      rw [hlen] at this
      exact this
    · intro n hn
      have := hwz n (List.mem_of_mem_take hn)
      simpa [I64', Lit.wf, IntKind.min, IntKind.max, IntKind.signed, IntKind.bits] using this
/-- A slice of structs that is a field of another thing. -/
theorem structs_trod {α : Type} {R : RowTy α} (o : R.Ok) {H : Type} {enc : TypeId × Value → H} {W : World} {v : Value} {n : Nat} {y : DataW H × List MemPlace} (hf : DataW.trod enc Try.prog W 0 (fun _ => true) true n R.st [v] = some y) {fs : Array Field} (he : Try.prog.underlying R.el = some (.struct fs)) (hone : oneCellFields Try.prog fs = true) (hC : Try.prog.cellsOf R.el = fs.size) (hn : fs.size = R.n)
    (In : α → Prop) (hx : ∀ c : Nat → Value, (∀ (j : Nat) (f : Field), fs[j]? = some f → ∃ n y, DataW.trod enc Try.prog W 0 (fun _ => true) true n f.type [c j] = some y) → ∃ x : α, In x ∧ ∀ j u, (R.cs x)[j]? = some u → c j = u) :
    ∃ l : List α, RAt R W v l ∧ (∀ a ∈ l, In a) ∧ l.length ≤ maxLen := by
  rcases openFields o.under he hone hC hf with ⟨hcs, _⟩ | ⟨a, len, cap, m, hcs, hl, hm, hmm, hel⟩
  · simp at hcs
    subst hcs
    exact ⟨[], rAt_nil W, by simp, by simp⟩
  · simp at hcs
    subst hcs
    simp only [if_true] at hmm
    subst hmm
    obtain ⟨l, hll, hA⟩ := listOf (n := len) (Q := fun i (x : α) => In x ∧ ∀ j u, (R.cs x)[j]? = some u → W.cell? (a.add (i * R.n + j)) = some u) (fun i hi => by
      obtain ⟨ys, n, _, hfs⟩ := hel i (by omega)
      obtain ⟨x, h1, h2⟩ := hx (fun j => (W.cell? (a.add (i * R.n + j))).getD undef) (fun j f hj => by
        obtain ⟨v, y, e1, e2⟩ := hfs j f hj
        rw [hn] at e1
        exact ⟨n, y, by rw [e1]; exact e2⟩)
      refine ⟨x, h1, fun j u hj => ?_⟩
      have hjn : j < R.n := by rw [← o.len x]; exact (List.getElem?_eq_some_iff.1 hj).1
      obtain ⟨v, y, e1, e2⟩ := hfs j fs[j] (Array.getElem?_eq_getElem (by omega))
      rw [hn] at e1
      have := h2 j u hj
      rw [e1] at this ⊢
      simp at this
      rw [this])
    refine ⟨l, ?_, fun ac hac => ?_, by omega⟩
    · have := rAt_of_cells o (w := W) (a := a) (L := l) (cap := m) (by omega) (by omega) (fun k x hk => (hA k x hk).2)
      rw [hll] at this
      exact this
    · obtain ⟨i, hi, rfl⟩ := List.getElem_of_mem hac
      exact (hA i l[i] (by simp [hi])).1
end Go.Proofs.Ytiffdhihhggkhaa

/-
  GENERAL: strings.Builder told with its buffer: what WriteString changes is the builder's own block and its buffer alone.
-/
namespace Go.Proofs.Ytiffdhihhggkhaa
open Go.RowKit
set_option linter.unusedVariables false
set_option maxRecDepth 100000

/-- A builder in block b (of type T), its buffer v, its bytes l: all from block B on. -/
structure Bu (T : TypeId) (B b : Nat) (v : Value) (l : List UInt8) (w : World) : Prop where
  from_ : B ≤ b
  box : ∃ p, (p = .pointer none ∨ p = .pointer (some ⟨b, 0, none⟩)) ∧ own w b #[p, v] T
  row : w.ownsRow B 5 1 v l.length (Lib.byteCells l)
  ne : v.ownBlock ≠ some b
theorem Bu.is {T : TypeId} {B b : Nat} {v : Value} {l : List UInt8} {w : World} (h : Bu T B b v l w) : Lib.IsBuilder T 5 B b (Lib.byteCells l) w := by
  obtain ⟨p, hp, ho⟩ := h.box
  have hr := h.row
  rcases hp with rfl | rfl
  · exact .inl ⟨h.from_, v, ho, by rw [Lib.byteCells_length]; exact hr, h.ne⟩
  · exact .inr ⟨h.from_, v, ho, by rw [Lib.byteCells_length]; exact hr, h.ne⟩
theorem Bu.lt {T : TypeId} {B b : Nat} {v : Value} {l : List UInt8} {w : World} (h : Bu T B b v l w) : b < w.heap.size := by
  obtain ⟨p, hp, ho⟩ := h.box
  exact ho.lt
theorem Bu.row_lt {T : TypeId} {B b : Nat} {v : Value} {l : List UInt8} {w : World} (h : Bu T B b v l w) : ∀ x, v.ownBlock = some x → B ≤ x ∧ x < w.heap.size := fun x hx => World.ownsRow.lt h.row x hx
theorem Bu.same {T : TypeId} {B b : Nat} {v : Value} {l : List UInt8} {w w' : World} (h : Bu T B b v l w) (h1 : w'.heap[b]? = w.heap[b]?) (h2 : ∀ x, v.ownBlock = some x → w'.heap[x]? = w.heap[x]?) : Bu T B b v l w' := by
  obtain ⟨p, hp, ho⟩ := h.box
  exact ⟨h.from_, ⟨p, hp, ho.same h1⟩, ownsRow_same h.row h2, h.ne⟩
theorem Bu.below {T : TypeId} {B b : Nat} {v : Value} {l : List UInt8} {w w' : World} (h : Bu T B b v l w) (hb : Below w.heap.size w w') : Bu T B b v l w' :=
  h.same (hb.block _ h.lt) (fun x hx => hb.block x (h.row_lt x hx).2)
theorem Bu.chg {T : TypeId} {B b : Nat} {v : Value} {l : List UInt8} {w w' : World} {S : Nat → Prop} (h : Bu T B b v l w) (hc : Chg S w w') (h1 : ¬ S b) (h2 : ∀ x, v.ownBlock = some x → ¬ S x) : Bu T B b v l w' :=
  h.same (hc.block _ h.lt h1) (fun x hx => hc.block x (h.row_lt x hx).2 (h2 x hx))
theorem Bu.fresh (T : TypeId) (w : World) : Bu T w.heap.size w.heap.size (.slice none 0 0) [] (w.alloc (.cells #[.pointer none, .slice none 0 0] T)) :=
  ⟨Nat.le_refl _, ⟨_, .inl rfl, own.new w _ _⟩, ⟨by simp [Lib.byteCells], .inl ⟨rfl, rfl⟩⟩, by simp [Value.ownBlock]⟩

end Go.Proofs.Ytiffdhihhggkhaa


/-
  strings.Clone: the same text; only new memory.
-/
namespace Go.Proofs.Ytiffdhihhggkhaa
open Go.RowKit
set_option linter.unusedVariables false
set_option maxRecDepth 100000

theorem setRow_size (w : World) (g : Nat) (cs : Array Value) : (w.setRow g cs).heap.size = w.heap.size := by simp [World.setRow]
theorem setRow_other (w : World) (g : Nat) (cs : Array Value) (b : Nat) (hb : b ≠ g) : (w.setRow g cs).heap[b]? = w.heap[b]? := by
  simp only [World.setRow, Array.getElem?_modify]
  rw [if_neg (fun e => hb e.symm)]
theorem setRow_same {w : World} {g : Nat} {cur : Array Value} {t : TypeId} {fz : Nat × Nat} (hg : w.heap[g]? = some (.cells cur t fz)) (cs : Array Value) : (w.setRow g cs).heap[g]? = some (.cells cs t fz) := by
  simp [World.setRow, Array.getElem?_modify, hg]

end Go.Proofs.Ytiffdhihhggkhaa


/-
  GENERAL: a thing taken out of a row that the call has made (slices.Delete(s, k, k+1)): the runs of its append and its clear.
-/
namespace Go.Proofs.Ytiffdhihhggkhaa
open Go.RowKit
set_option linter.unusedVariables false
set_option maxRecDepth 100000

section
variable {α : Type} {R : RowTy α}
theorem zeroCells_one (z : Array Value) : (Builtin.zeroCells z 1).toList = z.toList := by
  apply List.ext_getElem?
  intro i
  simp only [Builtin.zeroCells, Nat.one_mul, Array.toList_map, Array.toList_range, List.getElem?_map]
  by_cases h : i < z.size
  · rw [List.getElem?_range h]
    simp [Nat.mod_eq_of_lt h, h]
  · rw [List.getElem?_eq_none (by simp; omega), List.getElem?_eq_none (by simp; omega)]
    rfl
theorem setCells_row {w : World} {b : Nat} {cur : Array Value} {T : TypeId} {fz : Nat × Nat} (hb : w.heap[b]? = some (.cells cur T fz)) : ∀ (vs : List Value) (o : Nat), o + vs.length ≤ cur.size → ∃ cur' : Array Value, (w.setCells b o vs).heap[b]? = some (.cells cur' T fz) ∧ cur'.size = cur.size ∧ ∀ j, j < o → cur'[j]? = cur[j]?
  | [], o, h => ⟨cur, hb, rfl, fun _ _ => rfl⟩
  | v :: r, o, h => by
    have hb2 : (w.setCell ⟨b, o, none⟩ v).heap[b]? = some (.cells (cur.setIfInBounds o v) T fz) := by
      simp [World.setCell, Array.getElem?_modify, hb]
    obtain ⟨cur', h1, h2, h3⟩ := setCells_row hb2 r (o + 1) (by simp at h ⊢; omega)
    refine ⟨cur', h1, by rw [h2]; simp, fun j hj => ?_⟩
    rw [h3 j (by omega), Array.getElem?_setIfInBounds, if_neg (by omega)]
theorem setCells_chg (b : Nat) : ∀ (vs : List Value) (o : Nat) (w : World), Chg (fun x => x = b) w (w.setCells b o vs)
  | [], _, w => Chg.refl _ w
  | v :: r, o, w => (Chg.setCell w ⟨b, o, none⟩ v).trans (setCells_chg b r (o + 1) _) (fun x h => .inl h)
theorem run_clear_one (o : R.Ok) (hz1 : ∀ u ∈ R.zero.cells.toList, u.oneCell' = true) (w : World) (ty : TypeId) (b of c : Nat)
    (hc : ∀ j, j < R.n → (w.cell? ⟨b, of + j, none⟩).isSome = true) (hf : ∀ j, w.frozen? ⟨b, j, none⟩ = false) :
    (Builtin.clear_ #[R.st] ty #[.slice (some ⟨b, of, none⟩) 1 c]).run Try.prog w = .ok (.tuple #[]) (w.setCells b of R.zero.cells.toList) := by
  obtain ⟨i0, hi, hz0, hzs, _⟩ := o.parts
  have hlen : R.zero.cells.toList.length = R.n := by rw [Array.length_toList]; exact o.zs
  have hst := run_storeCells_cells (P := Try.prog) b of R.zero.cells.toList 0 w (by rw [hlen]; simpa using hc) (fun j _ => hf _) hz1
  simp only [Nat.add_zero] at hst
  have hv : (zeroValue R.el).run Try.prog w = .ok R.zero w := by simp [zeroValue, typeInfo, hi, hz0]
  simp [Builtin.clear_, run_underlying o.under, hv, zeroCells_one, hst]
/-- What s[n-1:n] is, of a row cut by one. -/
theorem run_last (o : R.Ok) (wx : World) (g n cap : Nat) (h0 : 0 < n) (hn : n ≤ cap) : (Instr.slice R.st (.slice (some ⟨g, 0, none⟩) (n - 1) cap) (some (.int .i64 ((n - 1 : Nat) : Int))) (some (.int .i64 (n : Int))) none).run Try.prog wx = .ok (.slice (some ⟨g, (n - 1) * R.n, none⟩) 1 (cap - (n - 1))) wx := by
  obtain ⟨i0, hi0, _, hzs, _⟩ := o.parts
  have hne : ¬ cap = n - 1 := by omega
  have h2 : n - (n - 1) = 1 := by omega
  have h3 : ((n - 1 : Nat) : Int) ≤ (n : Int) := by omega
  simp [go_sem, Instr.slice, run_underlying o.under, sizeOf, typeInfo, hi0, Result.andThen, hn, h2, h3, hne, hzs, Go.WideShapes.add_plain]
/-- The row behind append(s[:k], s[k+1:]..) and clear(s[n-1:n]). -/
theorem ROwn.del (o : R.Ok) (hz1 : ∀ u ∈ R.zero.cells.toList, u.oneCell' = true) {w : World} {g cap : Nat} {L : List α} (h : ROwn R w (.slice (some ⟨g, 0, none⟩) L.length cap) L) {k : Nat} (hk : k < L.length) (ty : TypeId) :
    ∃ w1 w2, (Builtin.append_ #[R.st, R.st] ty #[.slice (some ⟨g, 0, none⟩) k cap, R.from (some ⟨g, 0, none⟩) L.length cap (k + 1)]).run Try.prog w = .ok (.slice (some ⟨g, 0, none⟩) (L.length - 1) cap) w1 ∧
      (∀ ty2, (Builtin.clear_ #[R.st] ty2 #[.slice (some ⟨g, (L.length - 1) * R.n, none⟩) 1 (cap - (L.length - 1))]).run Try.prog w1 = .ok (.tuple #[]) w2) ∧
      ROwn R w2 (.slice (some ⟨g, 0, none⟩) (L.length - 1) cap) (L.take k ++ L.drop (k + 1)) ∧ Chg (fun b => b = g) w w2 := by
  obtain ⟨i0, hi, hz0, hzs, _⟩ := o.parts
  obtain ⟨_, _, e, hlc, _, hcm⟩ := h.slice
  cases e
  have hcut : w.ownsRow 0 R.el R.n (.slice (some ⟨g, 0, none⟩) k cap) k (R.flat (L.take k)) := by
    have := h.cut o (k := k) (by omega)
    unfold ROwn at this
    rwa [show (L.take k).length = k by rw [List.length_take]; omega] at this
  obtain ⟨hd, _⟩ := h.rAt.drop o (k := k + 1) (by omega)
  obtain ⟨a, c, ea, _, hnone, _, hcells⟩ := hd
  have hdl : (L.drop (k + 1)).length = L.length - (k + 1) := List.length_drop
  have hlen : (L.take k ++ L.drop (k + 1)).length = L.length - 1 := by rw [List.length_append, List.length_take, hdl]; omega
  have hkm : k + (L.length - (k + 1)) = L.length - 1 := by omega
  obtain ⟨ad, had⟩ : ∃ ad, a = some ad := by
    unfold RowTy.from at ea
    simp only [Option.map_some, Value.slice.injEq] at ea
    rw [← ea.1]
    split <;> exact ⟨_, rfl⟩
  subst had
  have hnews : ∀ j u, (R.flat (L.drop (k + 1)))[j]? = some u → w.cell? (ad.add j) = some u := fun j u hj => by
    obtain ⟨sb, so, e, _, hxs⟩ := hcells (by intro e; rw [e] at hj; simp [RowTy.flat] at hj)
    cases e
    rw [Go.WideShapes.add_plain]
    exact hxs j u hj
  obtain ⟨w1, hr1, hown1, hg1⟩ := run_append_fits (P := Try.prog) w 0 R.st ty R.el i0 R.n o.under hi hzs g k cap (R.flat (L.take k)) hcut ad (L.length - (k + 1)) c (R.flat (L.drop (k + 1))) (by rw [flat_length o, hdl]) hnews (flat_one o _) (by omega)
  rw [hkm] at hr1 hown1
  rw [← flat_append] at hown1
  rw [hdl] at ea
  refine ⟨w1, w1.setCells g ((L.length - 1) * R.n) R.zero.cells.toList, by rw [ea]; exact hr1, fun ty2 => ?_, ?_, ?_⟩
  · rcases hown1.2 with ⟨h0, _⟩ | ⟨g', cap', cur, hv, hbg, hg, hnc, hcm, hcs, htake⟩
    · cases h0
    · cases hv
      refine run_clear_one o hz1 w1 ty2 g _ _ (fun j hj => ?_) (fun j => Lib.frozen_of_heap hg j)
      rw [Lib.cell_of_heap hg, Array.getElem?_eq_getElem (by rw [hcs]; have hh : (L.length - 1) * R.n + R.n ≤ cap * R.n := (by rw [← Nat.succ_mul]; exact Nat.mul_le_mul_right _ (by omega)); omega)]
      rfl
  · rcases hown1.2 with ⟨h0, _⟩ | ⟨g', cap', cur, hv, hbg, hg, hnc, hcm, hcs, htake⟩
    · cases h0
    · cases hv
      have hzl : R.zero.cells.toList.length = R.n := by rw [Array.length_toList]; exact o.zs
      obtain ⟨cur', c1, c2, c3⟩ := setCells_row hg R.zero.cells.toList ((L.length - 1) * R.n) (by rw [hzl, hcs, ← Nat.succ_mul]; exact Nat.mul_le_mul_right _ (by omega))
      unfold ROwn
      rw [hlen]
      refine ⟨hown1.1, .inr ⟨g, cap, cur', rfl, hbg, c1, hnc, hcm, by rw [c2, hcs], ?_⟩⟩
      rw [← htake]
      apply List.ext_getElem?
      intro j
      rw [List.getElem?_take, List.getElem?_take]
      split
      · rename_i hj
        rw [Array.getElem?_toList, Array.getElem?_toList]
        exact c3 j hj
      · rfl
  · exact ((Chg.of_grown hg1).mono (fun x e => by cases e; rfl)).trans (setCells_chg g _ _ w1) (fun x e => .inl e)
end
end Go.Proofs.Ytiffdhihhggkhaa

/-
  GENERAL: clear of a row's end (any number of things), slices.Delete(s, 0, n) and slices.Replace(s, i, len(s), v..) of a row that is owned: the runs of their appends and clears.
-/
namespace Go.Proofs.Ytiffdhihhggkhaa
open Go.RowKit
set_option linter.unusedVariables false
set_option maxRecDepth 100000

section
variable {α : Type} {R : RowTy α}
theorem zeroCells_len (z : Array Value) (n : Nat) : (Builtin.zeroCells z n).toList.length = n * z.size := by simp [Builtin.zeroCells]
theorem zeroCells_mem (z : Array Value) (n : Nat) : ∀ u ∈ (Builtin.zeroCells z n).toList, u ∈ z.toList := by
  intro u hu
  simp only [Builtin.zeroCells, Array.toList_map, Array.toList_range, List.mem_map, List.mem_range] at hu
  obtain ⟨i, hi, rfl⟩ := hu
  have hz : 0 < z.size := by
    rcases Nat.eq_zero_or_pos z.size with h | h
    · rw [h] at hi; omega
    · exact h
  have : i % z.size < z.size := Nat.mod_lt _ hz
  rw [getElem!_pos z (i % z.size) this]
  exact Array.mem_toList_iff.2 (Array.getElem_mem this)
theorem run_clear_n (o : R.Ok) (hz1 : ∀ u ∈ R.zero.cells.toList, u.oneCell' = true) (w : World) (ty : TypeId) (b of n c : Nat)
    (hc : ∀ j, j < n * R.n → (w.cell? ⟨b, of + j, none⟩).isSome = true) (hf : ∀ j, w.frozen? ⟨b, j, none⟩ = false) (hn : 0 < n) :
    (Builtin.clear_ #[R.st] ty #[.slice (some ⟨b, of, none⟩) n c]).run Try.prog w = .ok (.tuple #[]) (w.setCells b of (Builtin.zeroCells R.zero.cells n).toList) := by
  obtain ⟨i0, hi, hz0, hzs, _⟩ := o.parts
  have hlen : (Builtin.zeroCells R.zero.cells n).toList.length = n * R.n := by rw [zeroCells_len, o.zs]
  have hst := run_storeCells_cells (P := Try.prog) b of (Builtin.zeroCells R.zero.cells n).toList 0 w (by rw [hlen]; simpa using hc) (fun j _ => hf _) (fun u hu => hz1 u (zeroCells_mem _ _ u hu))
  simp only [Nat.add_zero] at hst
  have hv : (zeroValue R.el).run Try.prog w = .ok R.zero w := by simp [zeroValue, typeInfo, hi, hz0]
  obtain ⟨n, rfl⟩ : ∃ k, n = k + 1 := ⟨n - 1, by omega⟩
  simp [Builtin.clear_, run_underlying o.under, hv, hst]
/-- The end of an owned row is cleared: its first things stay. -/
theorem ROwn.clear (o : R.Ok) (hz1 : ∀ u ∈ R.zero.cells.toList, u.oneCell' = true) {w : World} {g cap : Nat} {L : List α} (h : ROwn R w (.slice (some ⟨g, 0, none⟩) L.length cap) L) {n : Nat} (hn : 0 < n) (hcap : L.length + n ≤ cap) :
    ∃ w2, (∀ ty c, (Builtin.clear_ #[R.st] ty #[.slice (some ⟨g, L.length * R.n, none⟩) n c]).run Try.prog w = .ok (.tuple #[]) w2) ∧ ROwn R w2 (.slice (some ⟨g, 0, none⟩) L.length cap) L ∧ Chg (fun b => b = g) w w2 := by
  rcases h.2 with ⟨h0, _⟩ | ⟨g', cap', cur, hv, hbg, hg, hnc, hcm, hcs, htake⟩
  · cases h0
  · cases hv
    have hmul : L.length * R.n + n * R.n ≤ cap * R.n := by rw [← Nat.add_mul]; exact Nat.mul_le_mul_right _ hcap
    have hlen : (Builtin.zeroCells R.zero.cells n).toList.length = n * R.n := by rw [zeroCells_len, o.zs]
    refine ⟨w.setCells g (L.length * R.n) (Builtin.zeroCells R.zero.cells n).toList, fun ty c => run_clear_n o hz1 w ty g _ n c (fun j hj => ?_) (fun j => Lib.frozen_of_heap hg j) hn, ?_, setCells_chg g _ _ w⟩
    · rw [Lib.cell_of_heap hg, Array.getElem?_eq_getElem (by rw [hcs]; omega)]
      rfl
    · obtain ⟨cur', c1, c2, c3⟩ := setCells_row hg (Builtin.zeroCells R.zero.cells n).toList (L.length * R.n) (by rw [hlen, hcs]; exact hmul)
      refine ⟨h.1, .inr ⟨g, cap, cur', rfl, hbg, c1, hnc, hcm, by rw [c2, hcs], ?_⟩⟩
      rw [← htake]
      apply List.ext_getElem?
      intro j
      rw [List.getElem?_take, List.getElem?_take]
      split
      · rename_i hj
        rw [Array.getElem?_toList, Array.getElem?_toList]
        exact c3 j hj
      · rfl
/-- append(s[:0], s[n:]..), clear(s[len - n:]): the front of an owned row is taken out. -/
theorem ROwn.front (o : R.Ok) (hz1 : ∀ u ∈ R.zero.cells.toList, u.oneCell' = true) {w : World} {g cap : Nat} {L : List α} (h : ROwn R w (.slice (some ⟨g, 0, none⟩) L.length cap) L) {n : Nat} (hn : 0 < n) (hnl : n ≤ L.length) (ty : TypeId) :
    ∃ w1 w2, (Builtin.append_ #[R.st, R.st] ty #[.slice (some ⟨g, 0, none⟩) 0 cap, R.from (some ⟨g, 0, none⟩) L.length cap n]).run Try.prog w = .ok (.slice (some ⟨g, 0, none⟩) (L.length - n) cap) w1 ∧
      (∀ ty2 c, (Builtin.clear_ #[R.st] ty2 #[.slice (some ⟨g, (L.length - n) * R.n, none⟩) n c]).run Try.prog w1 = .ok (.tuple #[]) w2) ∧
      ROwn R w2 (.slice (some ⟨g, 0, none⟩) (L.length - n) cap) (L.drop n) ∧ Chg (fun b => b = g) w w2 := by
  obtain ⟨i0, hi, hz0, hzs, _⟩ := o.parts
  obtain ⟨_, _, e, hlc, _, hcm⟩ := h.slice
  cases e
  have hcut : w.ownsRow 0 R.el R.n (.slice (some ⟨g, 0, none⟩) 0 cap) 0 (R.flat ([] : List α)) := by
    have := h.cut o (k := 0) (by omega)
    unfold ROwn at this
    simpa using this
  obtain ⟨hd, _⟩ := h.rAt.drop o (k := n) hnl
  obtain ⟨a, c, ea, _, hnone, _, hcells⟩ := hd
  have hdl : (L.drop n).length = L.length - n := List.length_drop
  obtain ⟨ad, had⟩ : ∃ ad, a = some ad := by
    unfold RowTy.from at ea
    simp only [Option.map_some, Value.slice.injEq] at ea
    rw [← ea.1]
    split <;> exact ⟨_, rfl⟩
  subst had
  have hnews : ∀ j u, (R.flat (L.drop n))[j]? = some u → w.cell? (ad.add j) = some u := fun j u hj => by
    obtain ⟨sb, so, e, _, hxs⟩ := hcells (by intro e; rw [e] at hj; simp [RowTy.flat] at hj)
    cases e
    rw [Go.WideShapes.add_plain]
    exact hxs j u hj
  obtain ⟨w1, hr1, hown1, hg1⟩ := run_append_fits (P := Try.prog) w 0 R.st ty R.el i0 R.n o.under hi hzs g 0 cap (R.flat ([] : List α)) hcut ad (L.length - n) c (R.flat (L.drop n)) (by rw [flat_length o, hdl]) hnews (flat_one o _) (by omega)
  rw [Nat.zero_add] at hr1 hown1
  rw [show R.flat ([] : List α) ++ R.flat (L.drop n) = R.flat (L.drop n) from rfl] at hown1
  rw [hdl] at ea
  have hown2 : ROwn R w1 (.slice (some ⟨g, 0, none⟩) (L.drop n).length cap) (L.drop n) := by unfold ROwn; rw [hdl]; exact hown1
  obtain ⟨w2, hc2, hr2, hch⟩ := hown2.clear o hz1 (n := n) hn (by rw [hdl]; omega)
  rw [hdl] at hc2 hr2
  exact ⟨w1, w2, by rw [ea]; exact hr1, fun ty2 c => hc2 ty2 c, hr2, ((Chg.of_grown hg1).mono (fun x e => by cases e; rfl)).trans hch (fun x e => .inl e)⟩
/-- What s[m:] is, and s[m:n], of an owned row (in its room). -/
theorem run_tail (o : R.Ok) (wx : World) (g L cap m : Nat) (hm : m < L) (hL : L ≤ cap) : (Instr.slice R.st (.slice (some ⟨g, 0, none⟩) L cap) (some (.int .i64 (m : Int))) none none).run Try.prog wx = .ok (.slice (some ⟨g, m * R.n, none⟩) (L - m) (cap - m)) wx := by
  rw [run_from o wx _ L cap m (by omega) hL]
  unfold RowTy.from
  rw [if_neg (by omega), Option.map_some, Go.WideShapes.add_plain, Nat.zero_add]
theorem run_mid (o : R.Ok) (wx : World) (g n m L cap : Nat) (hm : m < L) (hL : L ≤ cap) : (Instr.slice R.st (.slice (some ⟨g, 0, none⟩) n cap) (some (.int .i64 (m : Int))) (some (.int .i64 (L : Int))) none).run Try.prog wx = .ok (.slice (some ⟨g, m * R.n, none⟩) (L - m) (cap - m)) wx := by
  obtain ⟨i0, hi0, _, hzs, _⟩ := o.parts
  have h := run_slice_lh (P := Try.prog) wx R.st (some ⟨g, 0, none⟩) n cap (by rw [o.elem]; exact o.under) .i64 .i64 (m : Int) (L : Int) (by omega) (by omega) (by omega)
  rw [h, o.elem]
  have hne : ¬ cap = m := by omega
  simp [sizeOf, typeInfo, hi0, hzs, sliced, Result.andThen, hne, Go.WideShapes.add_plain]
end
end Go.Proofs.Ytiffdhihhggkhaa

/-
  GENERAL: the runs of 'append(append([]T{}, L..), x)', for any row: in the three orders in which the empty row and x's box may be laid. (After XNtSend's put_runs; how it is used: XRlRef5, XNtSend.)
-/
namespace Go.Proofs.Ytiffdhihhggkhaa
open Go.RowKit
set_option linter.unusedVariables false
set_option maxRecDepth 100000

section
variable {α : Type} {T : RowTy α}
structure GPut (T : RowTy α) (w : World) (lv : Value) (L : List α) (x : α) (cs : Array Value) (W : World) (g0 gF : Nat) (lay : Bool) (a1 : Option Addr) (b1 : Nat) (w1 : World) (a2 : Option Addr) (b2 : Nat) (w2 : World) : Prop where
  e1 : (Builtin.append_ #[T.st, T.st] T.st #[.slice (some ⟨g0, 0, none⟩) 0 0, lv]).run Try.prog W = .ok (.slice a1 L.length b1) w1
  b1w : Below w.heap.size w w1
  e2 : (Builtin.append_ #[T.st, T.st] T.st #[.slice a1 L.length b1, .slice (some ⟨if lay then w1.heap.size else gF, 0, none⟩) 1 1]).run Try.prog (if lay then w1.alloc (.cells cs T.el) else w1) = .ok (.slice a2 (L.length + 1) b2) w2
  row : RMid T w w2 (.slice a2 (L.length + 1) b2) (L ++ [x])
theorem gput_plan1 (o : T.Ok) {w wx : World} {lv : Value} {L : List α} {g0 : Nat} (hv : RAt T w lv L) (hl : L.length ≤ 100000) (hm : RMid T w wx (.slice (some ⟨g0, 0, none⟩) 0 0) []) :
    ∃ a1 b1 w1, (Builtin.append_ #[T.st, T.st] T.st #[.slice (some ⟨g0, 0, none⟩) 0 0, lv]).run Try.prog wx = .ok (.slice a1 L.length b1) w1 ∧ RMid T w w1 (.slice a1 L.length b1) L ∧ (∀ b, b < wx.heap.size → b ≠ g0 → w1.heap[b]? = wx.heap[b]?) := by
  obtain ⟨a1, b1, w1, e1, m1, k1⟩ := hm.app o T.st (hv.below hm.below) (by simp; omega)
  have z1 : ([] : List α).length + L.length = L.length := by simp
  rw [z1] at e1 m1
  rw [List.nil_append] at m1
  exact ⟨a1, b1, w1, e1, m1, fun b hb hne => k1 b hb (fun e => hne (by cases e; rfl))⟩
theorem gput_plan2 (o : T.Ok) {w wx : World} {L : List α} (hl : L.length ≤ 100000) {v1 : Value} {gF : Nat} {x : α} {cs : Array Value} (hcs : cs.toList = T.cs x) (hm : RMid T w wx v1 L) (ho : own wx gF cs T.el) :
    ∃ a2 b2 w2, (Builtin.append_ #[T.st, T.st] T.st #[v1, .slice (some ⟨gF, 0, none⟩) 1 1]).run Try.prog wx = .ok (.slice a2 (L.length + 1) b2) w2 ∧ RMid T w w2 (.slice a2 (L.length + 1) b2) (L ++ [x]) := by
  obtain ⟨a2, b2, w2, e2, m2, _⟩ := hm.app o T.st (rAt_box o ho hcs) (by simp; omega)
  exact ⟨a2, b2, w2, e2, m2⟩
theorem gput_runs (o : T.Ok) {w : World} {lv : Value} {L : List α} (hv : RAt T w lv L) (hl : L.length ≤ 100000) (x : α) (cs : Array Value) (hcs : cs.toList = T.cs x) :
    (∃ a1 b1 w1 a2 b2 w2, GPut T w lv L x cs ((w.alloc (.cells #[] T.el)).alloc (.cells cs T.el)).drew w.heap.size (w.heap.size + 1) false a1 b1 w1 a2 b2 w2) ∧
    (∃ a1 b1 w1 a2 b2 w2, GPut T w lv L x cs ((w.alloc (.cells cs T.el)).alloc (.cells #[] T.el)).drew (w.heap.size + 1) w.heap.size false a1 b1 w1 a2 b2 w2) ∧
    (∃ a1 b1 w1 a2 b2 w2, GPut T w lv L x cs (w.alloc (.cells #[] T.el)).drew w.heap.size 0 true a1 b1 w1 a2 b2 w2) := by
  have z0 : (w.alloc (.cells #[] T.el)).heap.size = w.heap.size + 1 := by simp
  have z1 : (w.alloc (.cells cs T.el)).heap.size = w.heap.size + 1 := by simp
  have B0 : Below w.heap.size w (w.alloc (.cells #[] T.el)).drew := (Below.alloc (Below.refl _ _) (Nat.le_refl _) _).drew
  have B01 : Below w.heap.size w ((w.alloc (.cells #[] T.el)).alloc (.cells cs T.el)).drew := (Below.alloc (Below.alloc (Below.refl _ _) (Nat.le_refl _) _) (by simp) _).drew
  have B10 : Below w.heap.size w ((w.alloc (.cells cs T.el)).alloc (.cells #[] T.el)).drew := (Below.alloc (Below.alloc (Below.refl _ _) (Nat.le_refl _) _) (by simp) _).drew
  have R0 : RMid T w _ (.slice (some ⟨w.heap.size, 0, none⟩) 0 0) [] := rMid_empty B0 (own.new w #[] _) (Nat.le_refl _)
  have R01 : RMid T w _ (.slice (some ⟨w.heap.size, 0, none⟩) 0 0) [] := rMid_empty B01 (own.same (own.new w #[] T.el) ((Below.alloc (Below.refl _ _) (Nat.le_refl _) (.cells cs T.el)).block _ (by rw [z0]; omega))) (Nat.le_refl _)
  have R10 : RMid T w _ (.slice (some ⟨w.heap.size + 1, 0, none⟩) 0 0) [] := rMid_empty B10 (by rw [← z1]; exact own.new (w.alloc (.cells cs T.el)) #[] _) (by omega)
  have O01 : own ((w.alloc (.cells #[] T.el)).alloc (.cells cs T.el)).drew (w.heap.size + 1) cs T.el := by rw [← z0]; exact own.new (w.alloc (.cells #[] T.el)) _ _
  have O10 : own ((w.alloc (.cells cs T.el)).alloc (.cells #[] T.el)).drew w.heap.size cs T.el := own.same (own.new w _ T.el) ((Below.alloc (Below.refl _ _) (Nat.le_refl _) (.cells #[] T.el)).block _ (by rw [z1]; omega))
  refine ⟨?_, ?_, ?_⟩
  · obtain ⟨a1, b1, w1, e1, m1, k1⟩ := gput_plan1 o hv hl R01
    obtain ⟨a2, b2, w2, e2, hT⟩ := gput_plan2 o hl hcs m1 (own.same O01 (k1 _ O01.lt (by omega)))
    exact ⟨a1, b1, w1, a2, b2, w2, e1, m1.below, e2, hT⟩
  · obtain ⟨a1, b1, w1, e1, m1, k1⟩ := gput_plan1 o hv hl R10
    obtain ⟨a2, b2, w2, e2, hT⟩ := gput_plan2 o hl hcs m1 (own.same O10 (k1 _ O10.lt (by omega)))
    exact ⟨a1, b1, w1, a2, b2, w2, e1, m1.below, e2, hT⟩
  · obtain ⟨a1, b1, w1, e1, m1, k1⟩ := gput_plan1 o hv hl R0
    have bC : Below w1.heap.size w1 (w1.alloc (.cells cs T.el)) := Below.alloc (Below.refl _ _) (Nat.le_refl _) _
    obtain ⟨a2, b2, w2, e2, hT⟩ := gput_plan2 o hl hcs (m1.later bC) (own.new w1 _ T.el)
    exact ⟨a1, b1, w1, a2, b2, w2, e1, m1.below, e2, hT⟩
end
end Go.Proofs.Ytiffdhihhggkhaa

