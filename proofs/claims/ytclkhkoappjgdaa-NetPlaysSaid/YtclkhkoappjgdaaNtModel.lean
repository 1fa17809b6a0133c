/-
  LAYER 6 (net): what an act makes of a net, as lists; the law's model (the document's net), alike.
-/
import Derived.Test.YtclkhkoappjgdaaNtTake
import Derived.Test.YtclkhkoappjgdaaNtActs
namespace Go.Proofs.Ytclkhkoappjgdaa
open Go.RowKit
set_option linter.unusedVariables false
set_option maxRecDepth 100000

def zl : Lt := ⟨0, 0, ⟨#[]⟩⟩
/-- The k-th letter, if there is one. -/
def ltAt (s : Nt) (k : Int) : Option (Nat × Lt) := if 0 ≤ k ∧ k < (s.L.length : Int) then (s.L[k.toNat]?).map (fun x => (k.toNat, x)) else none
def takeN (s : Nt) (k : Int) : Nt × Lt × Bool :=
  match ltAt s k with
  | none => (s, zl, false)
  | some (k, x) => if s.apart x.fr x.to_ = true then (s, zl, false) else (s.out k, x, true)
def twiceN (s : Nt) (k : Int) : Nt × Bool :=
  match ltAt s k with
  | none => (s, false)
  | some (_, x) => (s.send x, true)
def loseN (s : Nt) (k : Int) : Nt × Bool :=
  match ltAt s k with
  | none => (s, false)
  | some (k, _) => ({ s.out k with lost := s.lost + 1 }, true)
def lateN (s : Nt) (k : Int) : Nt × Bool :=
  match ltAt s k with
  | none => (s, false)
  | some (k, x) => ({ s with L := outL s.L k ++ [x] }, true)
def actN (s : Nt) (a : Na) (G : List Int) : Nt × Lt × Bool :=
  if pickZ a.op 10 = 3 ∨ pickZ a.op 10 = 4 then takeN s a.k
  else if pickZ a.op 10 = 5 then ((twiceN s a.k).1, zl, (twiceN s a.k).2)
  else if pickZ a.op 10 = 6 then ((loseN s a.k).1, zl, (loseN s a.k).2)
  else if pickZ a.op 10 = 7 then ((lateN s a.k).1, zl, (lateN s a.k).2)
  else if pickZ a.op 10 = 8 then ({ s with G := G }, zl, true)
  else if pickZ a.op 10 = 9 then ({ s with G := [] }, zl, true)
  else (s.send ⟨a.fr, a.to_, a.dt⟩, zl, true)
theorem ltAt_some {s : Nt} {k : Int} {n : Nat} {x : Lt} (h : ltAt s k = some (n, x)) : ∃ hn : n < s.L.length, s.L[n] = x ∧ k = (n : Int) := by
  unfold ltAt at h
  split at h
  · rename_i hk
    obtain ⟨y, hy, e⟩ := Option.map_eq_some_iff.1 h
    cases e
    obtain ⟨hl, he⟩ := List.getElem?_eq_some_iff.1 hy
    exact ⟨hl, he, by omega⟩
  · cases h
theorem ltAt_none {s : Nt} {k : Int} (h : ltAt s k = none) : k < 0 ∨ (s.L.length : Int) ≤ k := by
  unfold ltAt at h
  split at h
  · rename_i hk
    rw [Option.map_eq_none_iff, List.getElem?_eq_none_iff] at h
    omega
  · omega
def ltV (x : Lt) : Value := .agg #[.int .i64 x.fr, .int .i64 x.to_, .string x.dt]
theorem alike_same (w : World) (x : Lt) :
    Calls Try.prog 16 #[.agg #[.int .i64 x.fr, .int .i64 x.to_, .string x.dt], .agg #[.int .i64 x.fr, .int .i64 x.to_, .string x.dt]] w fun e w' => e = .returned (.bool true) ∧ Below w.heap.size w w' := by
  obtain ⟨a, b, d⟩ := x
  have q1 : (a == a) = true := by simp
  have q2 : (b == b) = true := by simp
  have q3 : (d.toList == d.toList) = true := beq_self_eq_true _
  go_enter Try.func16, Try.ntmps16
  go_wp2
  go_ret
  exact ⟨rfl, ((Below.refl _ _).alloc (Nat.le_refl _) _).alloc (by simp) _⟩
/-- What the model leaves. -/
structure MTurn (w w' : World) (r : Nat) (lv lv' gv gv' : Value) (s' : Nt) : Prop where
  is : RNet w' r lv' gv' s'
  chg : Chg (fun b => b = r) w w'
  new : ∀ b, lv'.ownBlock = some b → lv.ownBlock = some b ∨ (w.heap.size ≤ b ∧ b < w'.heap.size)
theorem RTurn.m {w w' : World} {r : Nat} {lv lv' gv : Value} {s' : Nt} (h : RTurn w w' r lv lv' gv s') : MTurn w w' r lv lv' gv gv s' := ⟨h.is, h.chg, h.new⟩
/-- Behind a call that began with both boxes laid: the result's box is known, and stored anew. -/
theorem model_end {w w3 : World} {r : Nat} {lv lv' gv : Value} {s s' : Nt} {cs : Array Value} {T : TypeId} (h : RNet w r lv gv s) (ht : RTurn ((w.alloc (.cells cs T)).alloc res0) w3 r lv lv' gv s') (hG : s'.G = s.G) (x : Lt) :
    Box3 w3 (w.heap.size + 1) (.int .i64 0) (.int .i64 0) (.string ⟨#[]⟩) (.int .i64 x.fr) (.int .i64 x.to_) (.string x.dt) ∧ Hid (RTurn w (((w3.setCell ⟨w.heap.size + 1, 0, none⟩ (.int .i64 x.fr)).setCell ⟨w.heap.size + 1, 1, none⟩ (.int .i64 x.to_)).setCell ⟨w.heap.size + 1, 2, none⟩ (.string x.dt)) r lv lv' gv s') := by
  have hr := h.head.lt
  have z0 : (w.alloc (.cells cs T)).heap.size = w.heap.size + 1 := by simp
  have z1 : ((w.alloc (.cells cs T)).alloc res0).heap.size = w.heap.size + 2 := by simp
  have hb : Below w.heap.size w ((w.alloc (.cells cs T)).alloc res0) := ((Below.refl _ _).alloc (Nat.le_refl _) _).alloc (by omega) _
  have ob : own ((w.alloc (.cells cs T)).alloc res0) (w.heap.size + 1) #[.int .i64 0, .int .i64 0, .string ⟨#[]⟩] 36 := by rw [← z0]; exact own.new (w.alloc (.cells cs T)) _ _
  refine ⟨box3_of (ob.chg ht.chg (fun e => by omega)) _ _ _, hid (RTurn.store3 h ((RTurn.of_below h hb).trans ht) hG (by omega) (fun e => ?_) _ _ _)⟩
  rcases ht.new _ e with e | e
  · have := h.lt _ e; omega
  · omega
/-- Two letters are told alike just where they are the same. -/
theorem alike_any (w : World) (x y : Lt) :
    Calls Try.prog 16 #[.agg #[.int .i64 x.fr, .int .i64 x.to_, .string x.dt], .agg #[.int .i64 y.fr, .int .i64 y.to_, .string y.dt]] w fun e w' => e = .returned (.bool ((x.fr == y.fr) && (x.to_ == y.to_) && (x.dt.toList == y.dt.toList))) ∧ Below w.heap.size w w' := by
  obtain ⟨a, b, d⟩ := x
  obtain ⟨a', b', d'⟩ := y
  simp only
  cases q1 : (a == a') with
  | false =>
    simp only [Bool.false_and]
    go_enter Try.func16, Try.ntmps16
    go_wp2
    go_ret
    exact ⟨rfl, ((Below.refl _ _).alloc (Nat.le_refl _) _).alloc (by simp) _⟩
  | true =>
    cases q2 : (b == b') with
    | false =>
      simp only [Bool.true_and, Bool.false_and]
      go_enter Try.func16, Try.ntmps16
      go_wp2
      go_ret
      exact ⟨rfl, ((Below.refl _ _).alloc (Nat.le_refl _) _).alloc (by simp) _⟩
    | true =>
      simp only [Bool.true_and]
      go_enter Try.func16, Try.ntmps16
      go_wp2
      go_ret
      exact ⟨rfl, ((Below.refl _ _).alloc (Nat.le_refl _) _).alloc (by simp) _⟩
end Go.Proofs.Ytclkhkoappjgdaa
