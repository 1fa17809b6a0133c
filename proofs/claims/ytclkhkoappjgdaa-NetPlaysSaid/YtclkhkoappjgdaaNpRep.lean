/-
  LAYER 6 (net), THE PROGRAM: how a net lies in memory; the group behind a closure: among, its closure, Apart, Split, Whole, New, Lost, Flight.
-/
import Derived.Test.YtclkhkoappjgdaaNtRef
import Derived.Test.YtclkhkoappjgdaaGDel
namespace Go.Proofs.Ytclkhkoappjgdaa
open Go.RowKit Go.Maps
set_option linter.unusedVariables false
set_option maxRecDepth 100000

/-- The program's letters. -/
def plTy : RowTy Lt := ⟨46, 37, 3, 32, ltCells, .agg #[.int .i64 0, .int .i64 0, .string ⟨#[]⟩]⟩
theorem plTy_ok : plTy.Ok := ⟨fun _ => rfl, fun x u hu => by simp [plTy, ltCells] at hu; rcases hu with rfl | rfl | rfl <;> rfl, by decide, Try.underlying46, by kernel_rfl, by kernel_rfl, rfl, by decide⟩
theorem plTy_z : ∀ u ∈ plTy.zero.cells.toList, u.oneCell' = true := by
  intro u hu
  simp [plTy, Value.cells] at hu
  rcases hu with rfl | rfl | rfl <;> rfl
abbrev MD := DataW Unit
def ky (id : Int) : Lit := .int .i64 id
theorem ky_key (id : Int) : WideAt.IsKeyLit (ky id) := trivial
theorem ky_ne {a b : Int} (h : a ≠ b) : ky a ≠ ky b := fun e => h (by cases e; rfl)
theorem keyedInt : Keyed Try.prog 3 := int_keyed Try.underlying3
theorem wf64 {n : Int} (h : I64' n) : (Lit.int .i64 n).wf = true := by
  unfold I64' at h
  simpa [Lit.wf, IntKind.min, IntKind.max, IntKind.signed, IntKind.bits] using h
theorem keyInt {n : Int} (h : I64' n) : keyOf Try.prog 3 (.int .i64 n) = some (ky n) := keyOf_int_mk Try.underlying3 (wf64 h)
noncomputable def UE : Value → Option (MD × List MemPlace) := unitElem
theorem zeroUnit (w : World) : (zeroValue 64).run Try.prog w = .ok (.agg #[]) w := by
  kernel_rfl
/-- The numbers that a map holds. -/
structure Mem (D : MD) (G : List Int) : Prop where
  tidy : Tidy D
  has : ∀ n, Maps.has D (ky n) = decide (n ∈ G)
theorem mem_nil : Mem (.map []) [] := ⟨tidy_empty, fun _ => rfl⟩
theorem Mem.snoc {D : MD} {G : List Int} (h : Mem D G) (n : Int) : Mem (D.put (ky n) (.agg [])) (G ++ [n]) := by
  refine ⟨h.tidy.put (ky_key _) _, fun m => ?_⟩
  by_cases e : m = n
  · subst e
    rw [has_put_same h.tidy.isMap (ky_key _) _]
    simp
  · rw [has_put_other (ky_ne e), h.has m]
    simp [e]
/-- The function that a group has become; T: its blocks. -/
def InAt (w : World) (T : Nat → Prop) (fv : Value) (G : List Int) : Prop :=
  (fv = .nilFunc ∧ G = []) ∨ ∃ c m k D, fv = .func (.func 39) #[] #[.pointer (some ⟨c, 0, none⟩)] ∧ own w c #[.map (some m)] 63 ∧ w.ownsMap Try.prog 3 UE m k D ∧ Mem D G ∧ T c ∧ T m
theorem InAt.same {w w' : World} {T : Nat → Prop} {fv : Value} {G : List Int} (h : InAt w T fv G) (hs : ∀ b, T b → w'.heap[b]? = w.heap[b]?) : InAt w' T fv G := by
  rcases h with h | ⟨c, m, k, D, e, h1, h2, h3, h4, h5⟩
  · exact .inl h
  · exact .inr ⟨c, m, k, D, e, h1.same (hs c h4), ownsMap_same h2 (hs m h5), h3, h4, h5⟩
theorem isMap_lt {H : Type} {w : World} {P : Program} {k : TypeId} {R : Value → Option (DataW H × List MemPlace)} {b n : Nat} {D : DataW H} (h : w.ownsMap P k R b n D) : b < w.heap.size := by
  obtain ⟨es, clock, hb, _⟩ := h
  exact (Array.getElem?_eq_some_iff.1 hb).1
/-- The closure: is a node in the group? -/
theorem inside_any {w : World} {c m k : Nat} {D : MD} {G : List Int} (h1 : own w c #[.map (some m)] 63) (h2 : w.ownsMap Try.prog 3 UE m k D) (h3 : Mem D G) {n : Int} (hn : I64' n) :
    Calls Try.prog 39 #[.int .i64 n, .pointer (some ⟨c, 0, none⟩)] w fun e w' => e = .returned (.bool (decide (n ∈ G))) ∧ Below w.heap.size w w' := by
  obtain ⟨v, ps, hrun, hv⟩ := h2.look_ok keyedInt Try.underlying63 (zeroUnit w) (R := UE) (zd := .agg []) (zp := []) unitElem_mk (keyInt hn)
  obtain ⟨rfl, _⟩ := unitElem_inv hv
  have hcell : w.cell? ⟨c, 0, none⟩ = some (.map (some m)) := (h1.cell 0).trans rfl
  rw [h3.has n] at hrun
  clear hv h1 h2 h3
  generalize decide (n ∈ G) = b at *
  go_enter Try.func39, Try.ntmps39
  go_wp2
  go_ret
  exact ⟨rfl, (Below.refl _ _).alloc (Nat.le_refl _) _⟩
end Go.Proofs.Ytclkhkoappjgdaa
