import Derived.RangeFuncNested
import Derived.RangeFuncBound
import Derived.RangeFuncCalls
import Derived.RangeFuncLeaves
import Derived.RangeFuncBox
import Derived.Shelf.Abstract
import Derived.Shelf.RegionOpen
import Derived.WalkKit
import Derived.OwnWalkIn
import Derived.TacticsInMore
import Derived.LoopNIn
import Derived.LoopIn
import Derived.Test.YtbccikefccdekaaGreatDoorMq1J
/-
  GENERAL: A RANGE OVER AN ITERATOR THAT HAS LOOPS OF ITS OWN OVER ITERATORS: its contract names the blocks F that the round may turn (the caller's), and asks of the caller to abide whatever else is turned from where the loop begins.
-/
namespace Go.Proofs.YtbccikefccdekaaGreatDoor
open Go.RowKit Go.Shelf
set_option linter.unusedVariables false
set_option maxRecDepth 100000

theorem chg_putObj (w : World) (r : Nat) (o : Obj) : Chg (fun b => b = r) w (w.putObj r o) := ⟨rfl, rfl, rfl, by simp, fun b hb hn => World.putObj_heap_other hn⟩
theorem putObj_size (w : World) (r : Nat) (o : Obj) : (w.putObj r o).heap.size = w.heap.size := by simp
theorem room_wide' (k : Nat) : Fence.wide.room k := room_wide k
theorem yield_any {l : Nat} {m m' l2 : Nat} {P : Program} {args : Array Value} {W : World} {R : Ending → World → Prop} (h : YieldAt Fence.wide m P l args W R) : YieldAt (Fence.wide.inRound l2) m' P l args W R := by
  obtain ⟨fn, tmps, assign, body, hy, hR⟩ := h
  exact ⟨fn, tmps, assign, body, hy, hR.1, fun c cs _ => hR.2 c cs (room_wide _)⟩
theorem yield_wide {l : Nat} {m m' : Nat} {P : Program} {args : Array Value} {W : World} {R : Ending → World → Prop} (h : YieldAt Fence.wide m P l args W R) : YieldAt Fence.wide m' P l args W R := by
  obtain ⟨fn, tmps, assign, body, hy, hR⟩ := h
  exact ⟨fn, tmps, assign, body, hy, hR.1, fun c cs _ => hR.2 c cs (room_wide _)⟩
/-- What is said of the blocks F, and of what lies below B, lies on where neither is turned. -/
def Abide {β : Type} (B : Nat) (J : (Nat → Prop) → β → World → Prop) : Prop := ∀ F s A C, J F s A → Chg (fun b => B ≤ b ∧ ¬ F b) A C → J F s C
theorem Abide.le {β : Type} {B B' : Nat} {J : (Nat → Prop) → β → World → Prop} (h : Abide B J) (hb : B ≤ B') : Abide B' J := fun F s A C hj hc => h F s A C hj (hc.mono (fun b e => ⟨by omega, e.2⟩))
/-- A round's word to the iterator. -/
def RoundT {α : Type} (J Jx : (Nat → Prop) → List α → World → Prop) (F : Nat → Prop) (xs : List α) (W : World) : Ending → World → Prop := fun e W' =>
  (e = .returned (.bool true) ∧ (∃ F', J F' xs W' ∧ (∀ b, F' b → F b ∨ W.heap.size ≤ b)) ∧ Chg F W W') ∨
  (e = .returned (.bool false) ∧ (∃ F', Jx F' xs W' ∧ (∀ b, F' b → F b ∨ W.heap.size ≤ b)) ∧ Chg F W W')
/-- AN ITERATOR's CONTRACT: D: the blocks that it reads; S: all have come; Sp: what comes is the beginning of such. -/
def SeqT {α : Type} (P : Program) (g : Nat) (lb : Array Value) (encs : α → Array Value) (D : Nat → Prop) (S Sp : List α → Prop) (w : World) : Prop :=
  ∀ (n l : Nat) (J Jx : (Nat → Prop) → List α → World → Prop) (F0 : Nat → Prop) (W : World), Below w.heap.size w W → Abide W.heap.size J → Abide W.heap.size Jx →
    (∀ F s A, J F s A → ∀ b, F b → b < A.heap.size) → (∀ F s A, Jx F s A → ∀ b, F b → b < A.heap.size) → (∀ b, F0 b → ¬ D b) →
    (∀ F pre x W1, J F pre W1 → Sp (pre ++ [x]) → YieldAt Fence.wide 0 P l (encs x) W1 (RoundT J Jx F (pre ++ [x]) W1)) →
    J F0 [] W →
    CallsIn Fence.wide n P g (#[.func (.yield l) #[] #[]] ++ lb) W fun e W' => (∃ v, e = .returned v) ∧ ((∃ F xs, S xs ∧ J F xs W') ∨ (∃ F pre, Sp pre ∧ Jx F pre W'))
/-- How the body of a round may be left. -/
def postT {α : Type} (I Ix : (Nat → Prop) → List α → World → Prop) (F : Nat → Prop) (xs : List α) (W : World) : Exit → Act → World → Prop
  | .normal, _, W' => (∃ F', I F' xs W' ∧ (∀ b, F' b → F b ∨ W.heap.size ≤ b)) ∧ Chg F W W'
  | .ret, _, W' => (∃ F', Ix F' xs W' ∧ (∀ b, F' b → F b ∨ W.heap.size ≤ b)) ∧ Chg F W W'
  | _, _, _ => False
variable {P : Program}
/-- THE LOOP. -/
theorem wpIn_rangeT {n : Nat} {α : Type} {g : Operand} {ps : Array Tmp} {assign body : Code} {Q : Exit → Act → World → Prop} {a : Act} {w : World}
    {gf : Nat} {lb : Array Value} (hg : a.eval g = .func (.func gf) #[] lb) (eg : ∀ args w, (callFunc gf args).run P w = .ok (.enter gf args) w)
    {encs : α → Array Value} {D : Nat → Prop} {S Sp : List α → Prop} {w0 : World} (hseq : SeqT P gf lb encs D S Sp w0) (hb0 : Below w0.heap.size w0 w) (hD : ∀ b, D b → b < w.heap.size) (hps : ∀ x, (encs x).size = ps.size)
    (I Ix : (Nat → Prop) → List α → World → Prop) (hI : Abide w.heap.size I) (hIx : Abide w.heap.size Ix) (hIl : ∀ F s A, I F s A → ∀ b, F b → b < A.heap.size) (hIxl : ∀ F s A, Ix F s A → ∀ b, F b → b < A.heap.size) (F0 : Nat → Prop) (hF0 : ∀ b, F0 b → b < w.heap.size) (hFD : ∀ b, F0 b → ¬ D b) (h0 : I F0 [] w) (a₁ : α → Act)
    (hassign : ∀ (l : Nat) (x : α) (W : World) (K : Act → World → Prop), K (a₁ x) W →
      assign.wpIn (Fence.wide.inRound l) 0 P (Exit.then K (fun _ _ _ => False)) { tmps := (ps.zip (encs x)).foldl (fun t (p, v) => t.setIfInBounds p v) a.tmps, defers := [] } W)
    (hbody : ∀ (l : Nat) (F : Nat → Prop) (pre : List α) (x : α) (W : World), I F pre W → Sp (pre ++ [x]) → w.heap.size ≤ W.heap.size → body.wpIn (Fence.wide.inRound l) 0 P (postT I Ix F (pre ++ [x]) W) (a₁ x) W)
    (hdone : ∀ (K : Nat) (F : Nat → Prop) (xs : List α) (W : World), w.heap.size ≤ K → ¬ F K → S xs → I F xs W → W.heap[K]? = some (.deferred (some [])) → Q .normal { a with defers := { target := .collected K, args := #[] } :: a.defers } W)
    (hstop : ∀ (K : Nat) (F : Nat → Prop) (pre : List α) (W : World), w.heap.size ≤ K → ¬ F K → Sp pre → Ix F pre W → W.heap[K]? = some (.deferred (some [])) → Code.ret.wpIn Fence.wide n P Q { a with defers := { target := .collected K, args := #[] } :: a.defers } W) :
    (Code.rangeFunc g ps assign body).wpIn Fence.wide n P Q a w := by
  refine wpIn_rangeFunc (F := Fence.wide) ?_
  intro fn hfn
  show ∃ l mark w₁ d w₁' f args w₂, (Instr.enterLoop fn a.tmps ps assign body none).run P w = _ ∧ _
  obtain ⟨rec, hrec⟩ : ∃ rec : LoopState → Option Code → Loop, rec = fun st pe => { state := st, pending := pe, fn, tmps := a.tmps, params := ps, assign, body, defers := w.heap.size } := ⟨_, rfl⟩
  obtain ⟨k0, hk0⟩ : ∃ k0, w.heap.size = k0 := ⟨_, rfl⟩
  obtain ⟨W1, hW1⟩ : ∃ W1, (w.alloc (.deferred (some []))).alloc (.loop (rec .ready none)) = W1 := ⟨_, rfl⟩
  have hz1 : W1.heap.size = k0 + 2 := by rw [← hW1]; simp; omega
  have hL1 : W1.heap[k0 + 1]? = some (.loop (rec .ready none)) := by
    have e := World.alloc_heap_new (w.alloc (.deferred (some []))) (.loop (rec .ready none))
    rw [World.size_alloc, hk0, hW1] at e
    exact e
  have hc1 : Chg (fun _ => False) w W1 := by
    rw [← hW1]; exact (Chg.alloc _ w _).trans (Chg.alloc (fun _ => False) _ _) (fun _ e => e.elim)
  have hK1 : W1.heap[k0]? = some (.deferred (some [])) := by
    rw [← hW1]
    have e := World.alloc_heap_new w (.deferred (some []))
    rw [hk0] at e
    exact (Below.heap_alloc _ _ _ (by simp; omega)).trans e
  have hI1 : I F0 [] W1 := hI _ _ _ _ h0 (hc1.mono (fun _ e => e.elim))
  have hb1 : Below w0.heap.size w0 W1 := hb0.trans (hc1.below hb0.size (fun _ e => e.elim))
  -- what the rounds and the iterator hand on: the caller's words, and the two blocks of the loop's own
  have hlaid : ∀ (F : Nat → Prop) (A C : World) (S' : Nat → Prop), Chg S' A C → k0 + 1 < A.heap.size → ¬ S' (k0 + 1) → ¬ S' k0 → ∀ o, A.heap[k0 + 1]? = some o → A.heap[k0]? = some (.deferred (some [])) → C.heap[k0 + 1]? = some o ∧ C.heap[k0]? = some (.deferred (some [])) := fun F A C S' hc hlt h1 h2 o e1 e2 =>
    ⟨(hc.block _ hlt h1).trans e1, (hc.block _ (by omega) h2).trans e2⟩
  refine ⟨k0 + 1, [{ target := .collected k0, args := #[] }], W1, { target := .fn (.func gf) lb, args := #[.func (.yield (k0 + 1)) #[] #[]] }, W1, gf,
    #[.func (.yield (k0 + 1)) #[] #[]] ++ lb, W1, ?_, ?_, fun _ _ => trivial, ?_, (fun h => by cases h), ?_⟩
  · have e := run_enterLoop_outer (P := P) (w := w) fn a.tmps ps assign body
    rw [hk0] at e
    rw [← hW1, hrec, hk0]
    exact e
  · simp only [resolve, hg]
    simp [go_sem]
  · simp [invoke, go_sem, eg]
  · have hJ : ∀ (I' : (Nat → Prop) → List α → World → Prop) (o : Loop), Abide w.heap.size I' → Abide W1.heap.size (fun (F' : Nat → Prop) (s : List α) (W : World) => ∃ F, F' = (fun b => F b ∨ b = k0 + 1) ∧ I' F s W ∧ ¬ F (k0 + 1) ∧ ¬ F k0 ∧ (∀ b, F b → b < W.heap.size) ∧ W.heap[k0 + 1]? = some (.loop o) ∧ W.heap[k0]? = some (.deferred (some []))) := by
      rintro I' o hI' F' s A C ⟨F, rfl, hi, h1, h2, hl, e1, e2⟩ hc
      have hlt := (Array.getElem?_eq_some_iff.1 e1).1
      obtain ⟨f1, f2⟩ := hlaid F A C _ hc hlt (fun e => by omega) (fun e => by omega) _ e1 e2
      exact ⟨F, rfl, hI' _ _ _ _ hi (hc.mono (fun b e => ⟨by omega, fun k => e.2 (.inl k)⟩)), h1, h2, fun b e => Nat.lt_of_lt_of_le (hl b e) hc.size, f1, f2⟩
    refine (hseq (n - 1) (k0 + 1)
      (fun F' s W => ∃ F, F' = (fun b => F b ∨ b = k0 + 1) ∧ I F s W ∧ ¬ F (k0 + 1) ∧ ¬ F k0 ∧ (∀ b, F b → b < W.heap.size) ∧ W.heap[k0 + 1]? = some (.loop (rec .ready none)) ∧ W.heap[k0]? = some (.deferred (some [])))
      (fun F' s W => ∃ F, F' = (fun b => F b ∨ b = k0 + 1) ∧ Ix F s W ∧ ¬ F (k0 + 1) ∧ ¬ F k0 ∧ (∀ b, F b → b < W.heap.size) ∧ W.heap[k0 + 1]? = some (.loop (rec .done (some .ret))) ∧ W.heap[k0]? = some (.deferred (some [])))
      (fun b => F0 b ∨ b = k0 + 1) W1 hb1 (hJ I _ hI) (hJ Ix _ hIx) ?_ ?_ ?_ ?_ ⟨F0, rfl, hI1, fun e => by have := hF0 _ e; omega, fun e => by have := hF0 _ e; omega, fun b e => by have := hF0 b e; omega, hL1, hK1⟩).mono ?_
    · rintro F' s A ⟨F, rfl, hi, h1, h2, hl, e1, e2⟩ b (e | e)
      · exact hl b e
      · rw [e]; exact (Array.getElem?_eq_some_iff.1 e1).1
    · rintro F' s A ⟨F, rfl, hi, h1, h2, hl, e1, e2⟩ b (e | e)
      · exact hl b e
      · rw [e]; exact (Array.getElem?_eq_some_iff.1 e1).1
    · rintro b (e | e) k
      · exact hFD b e k
      · have := hD b k; omega
    · rintro F' pre x W ⟨F, rfl, hi, h1, h2, hl, e1, e2⟩ hlen
      have hlt : k0 + 1 < W.heap.size := (Array.getElem?_eq_some_iff.1 e1).1
      have hy := run_yield (P := P) (args := encs x) e1 (by rw [hrec]; exact hps x)
      rw [hrec] at hy
      refine ⟨fn, _, assign, body, hy, roundIn_of_wpIn hfn (hassign _ x W _ ?_)⟩
      refine ⟨_, run_beginRound e1 (by rw [hrec]), ?_⟩
      have hc2 := chg_putObj W (k0 + 1) (.loop { rec .ready none with state := .busy })
      have hz2 := putObj_size W (k0 + 1) (.loop { rec .ready none with state := .busy })
      have l2 : (W.putObj (k0 + 1) (.loop { rec .ready none with state := .busy })).heap[k0 + 1]? = some (.loop { rec .ready none with state := .busy }) := World.putObj_heap_same hlt
      have d2 : (W.putObj (k0 + 1) (.loop { rec .ready none with state := .busy })).heap[k0]? = some (.deferred (some [])) := (World.putObj_heap_other (by omega)).trans e2
      have hi2 : I F pre (W.putObj (k0 + 1) (.loop { rec .ready none with state := .busy })) := hI _ _ _ _ hi (hc2.mono (fun b e => ⟨by omega, by rw [e]; exact h1⟩))
      have hB := hbody (k0 + 1) F pre x _ hi2 hlen (by rw [hz2]; omega)
      revert hc2 hz2 l2 d2 hi2 hB
      generalize (W.putObj (k0 + 1) (.loop { rec .ready none with state := .busy })) = W2
      intro hc2 hz2 l2 d2 hi2 hB
      refine wpIn_mono hB ?_
      have fin : ∀ (jump : Option Code) (I' : (Nat → Prop) → List α → World → Prop) (W3 : World), Abide w.heap.size I' → (∃ F3, I' F3 (pre ++ [x]) W3 ∧ ∀ b, F3 b → F b ∨ W2.heap.size ≤ b) → Chg F W2 W3 → (∀ F3, I' F3 (pre ++ [x]) W3 → ∀ b, F3 b → b < W3.heap.size) →
          (Instr.endRound (k0 + 1) jump).run P W3 = .ok (.bool jump.isNone) (W3.putObj (k0 + 1) (.loop (rec (if jump.isNone then .ready else .done) jump))) ∧
          (∃ F', (∃ F4, F' = (fun b => F4 b ∨ b = k0 + 1) ∧ I' F4 (pre ++ [x]) (W3.putObj (k0 + 1) (.loop (rec (if jump.isNone then .ready else .done) jump))) ∧ ¬ F4 (k0 + 1) ∧ ¬ F4 k0 ∧ (∀ b, F4 b → b < (W3.putObj (k0 + 1) (.loop (rec (if jump.isNone then .ready else .done) jump))).heap.size) ∧ (W3.putObj (k0 + 1) (.loop (rec (if jump.isNone then .ready else .done) jump))).heap[k0 + 1]? = some (.loop (rec (if jump.isNone then .ready else .done) jump)) ∧ (W3.putObj (k0 + 1) (.loop (rec (if jump.isNone then .ready else .done) jump))).heap[k0]? = some (.deferred (some []))) ∧ ∀ b, F' b → (F b ∨ b = k0 + 1) ∨ W.heap.size ≤ b) ∧
          Chg (fun b => F b ∨ b = k0 + 1) W (W3.putObj (k0 + 1) (.loop (rec (if jump.isNone then .ready else .done) jump))) := by
        rintro jump I' W3 hI' ⟨F3, hi3, hF3⟩ hc3 hlt3
        have hl3 := (hc3.block _ (by rw [hz2]; exact hlt) h1).trans l2
        have hd3 := (hc3.block _ (by rw [hz2]; omega) h2).trans d2
        have n1 : ¬ F3 (k0 + 1) := fun e => by
          rcases hF3 _ e with k | k
          · exact h1 k
          · omega
        have n2 : ¬ F3 k0 := fun e => by
          rcases hF3 _ e with k | k
          · exact h2 k
          · omega
        have hend := run_endRound (P := P) jump hl3
        have hc4 := chg_putObj W3 (k0 + 1) (.loop (rec (if jump.isNone then .ready else .done) jump))
        refine ⟨?_, ⟨_, ⟨F3, rfl, hI' _ _ _ _ hi3 (hc4.mono (fun b e => ⟨by omega, by rw [e]; exact n1⟩)), n1, n2, ?_, World.putObj_heap_same (Array.getElem?_eq_some_iff.1 hl3).1, (World.putObj_heap_other (by omega)).trans hd3⟩, ?_⟩, ?_⟩
        · rw [hrec] at hend ⊢; exact hend
        · intro b e; rw [putObj_size]; exact hlt3 F3 hi3 b e
        · rintro b (e | e)
          · rcases hF3 b e with k | k
            · exact .inl (.inl k)
            · exact .inr (by omega)
          · exact .inl (.inr e)
        · exact ((hc2.mono (fun b e => .inr e)).trans (hc3.mono (fun b e => .inl e)) (fun b e => .inl e)).trans (hc4.mono (fun b e => .inr e)) (fun b e => .inl e)
      rintro e a3 W3 hp
      cases e with
      | normal =>
        obtain ⟨hF, hc3⟩ := hp
        obtain ⟨hr, hj, hcc⟩ := fin none I W3 hI hF hc3 (fun F3 h b e => hIl F3 _ _ h b e)
        exact ⟨_, _, hr, .inl ⟨rfl, hj, hcc⟩⟩
      | ret =>
        obtain ⟨hF, hc3⟩ := hp
        obtain ⟨hr, hj, hcc⟩ := fin (some .ret) Ix W3 hIx hF hc3 (fun F3 h b e => hIxl F3 _ _ h b e)
        exact ⟨_, _, hr, .inr ⟨rfl, hj, hcc⟩⟩
      | exit id => exact hp.elim
      | goto t => exact hp.elim
      | panic ch => exact hp.elim
      | outgrown => exact hp.elim
    · rintro e W2 ⟨⟨v, rfl⟩, (⟨F', xs, hS, F, rfl, hi, h1, h2, hl, e1, e2⟩ | ⟨F', pre, hSp, F, rfl, hi, h1, h2, hl, e1, e2⟩)⟩
      · have hend := run_endLoop (P := P) e1 (by rw [hrec]; simp)
        rw [hrec] at hend
        refine ⟨none, _, hend, ?_⟩
        exact hdone k0 F xs _ (by omega) h2 hS (hI _ _ _ _ hi ((chg_putObj W2 (k0 + 1) _).mono (fun b e => ⟨by omega, by rw [e]; exact h1⟩))) ((World.putObj_heap_other (by omega)).trans e2)
      · have hend := run_endLoop (P := P) e1 (by rw [hrec]; simp)
        rw [hrec] at hend
        refine ⟨some .ret, _, hend, ?_⟩
        exact hstop k0 F pre _ (by omega) h2 hSp (hIx _ _ _ _ hi ((chg_putObj W2 (k0 + 1) _).mono (fun b e => ⟨by omega, by rw [e]; exact h1⟩))) ((World.putObj_heap_other (by omega)).trans e2)
end Go.Proofs.YtbccikefccdekaaGreatDoor

