/-
  LAYER 8 (rlog): the program's log and the document's, apart from one another: how far the last Index may come; what a call of each leaves.
-/
import Derived.Test.YtiffdhihhggkhaaRlBoth
import Derived.Test.YtiffdhihhggkhaaMq5
namespace Go.Proofs.Ytiffdhihhggkhaa
open Go.RowKit
set_option linter.unusedVariables false
set_option maxRecDepth 100000

theorem last_addL (g : Rl) (t k : Int) (d : ByteArray) : (addL g t k d).last = g.last + 1 := by
  show g.bi + ((g.ents ++ [addE g t k d]).length : Int) = g.bi + g.ents.length + 1
  rw [List.length_append]
  simp
  omega
theorem last_matchL {g : Rl} (index term fixed : Int) (l : List Me) (hf : g.bi ≤ fixed) (hfl : fixed ≤ g.last) : (matchL g index term fixed l).2.last ≤ g.last + l.length := by
  unfold matchL
  split
  · show g.last ≤ _; omega
  · split
    · show g.last ≤ _; omega
    · split
      · show g.last ≤ _; omega
      · rename_i h1 h2 x0 k hk
        obtain ⟨h3, h4⟩ := diffAt_where hk (by omega) hf hfl
        have h5 := (diffAt_some l g fixed index k hk).1
        show g.bi + ((g.ents.take (index + (k : Int) - g.bi).toNat ++ reidx (index + k) (l.drop k)).length : Int) ≤ _
        rw [List.length_append, List.length_take, reidx_len, List.length_drop]
        omega
theorem last_compactL (g : Rl) (i : Int) (d : ByteArray) : (compactL g i d).2.last ≤ g.last := by
  unfold compactL
  split
  · exact Int.le_refl _
  · rename_i h
    show i + ((g.ents.drop (i - g.bi).toNat).length : Int) ≤ g.bi + g.ents.length
    rw [List.length_drop]
    unfold Rl.last at h
    omega
theorem last_restoreL {g : Rl} {n : Int} (bi bt : Int) (vot : List Int) (bd : ByteArray) (h : g.last ≤ n) (hb : bi ≤ n) : (restoreL g bi bt vot bd).2.last ≤ n := by
  show bi + ((if termL g bi = some bt then g.ents.drop (bi - g.bi).toNat else []).length : Int) ≤ n
  split
  · rename_i hk
    rw [List.length_drop]
    have h1 : g.bi ≤ bi ∧ bi ≤ g.last := by
      constructor
      · rcases Int.lt_or_le bi g.bi with h1 | h1
        · rw [termL_none (.inl h1)] at hk; cases hk
        · exact h1
      · rcases Int.lt_or_le g.last bi with h1 | h1
        · rw [termL_none (.inr h1)] at hk; cases hk
        · exact h1
    unfold Rl.last at h h1
    omega
  · simpa using hb
theorem RlB.len_last {s : Rl} (h : RlB s) : (s.ents.length : Int) ≤ s.last := by
  have := h.ok.pos
  unfold Rl.last
  omega
theorem turnX_of {X F : Nat → Prop} {w w' : World} {r : Nat} {s : Rl} (h : Turn rfRep F w w' r s) : TurnX X F w w' r s := by
  obtain ⟨F', hi, hc, hF⟩ := h
  refine ⟨F', hi, hc, fun b e => ?_⟩
  rcases hF b e with k | k
  · exact .inl k
  · exact .inr (.inl k)
/-- Both logs, made since w0, apart: the program's is s, the document's t. -/
structure Two (R : RlRep) (w0 w : World) (F1 F2 : Nat → Prop) (r1 r2 : Nat) (s t : Rl) : Prop where
  g : Lg R w0 w F1 r1 s
  m : Lg rfRep w0 w F2 r2 t
  ap : ∀ b, F1 b → ¬ F2 b
section
variable {R : RlRep} {w0 w w1 : World} {F1 F2 : Nat → Prop} {r1 r2 : Nat} {s t s1 : Rl}
theorem Two.later (h : Two R w0 w F1 F2 r1 r2 s t) (hb : Below w.heap.size w w1) : Two R w0 w1 F1 F2 r1 r2 s t := ⟨h.g.later hb, h.m.later hb, h.ap⟩
/-- The program's log has turned. -/
theorem Two.turn_g (h : Two R w0 w F1 F2 r1 r2 s t) (ht : Turn R F1 w w1 r1 s1) (hb : RlB s1) : ∃ F1', Two R w0 w1 F1' F2 r1 r2 s1 t ∧ ∀ b, F1' b → F1 b ∨ w.heap.size ≤ b := by
  obtain ⟨F1', hi, hc, hF⟩ := ht
  refine ⟨F1', ⟨h.g.turn hi hc hF hb, h.m.beside hc (fun b e => h.g.new b e) (fun b e k => h.ap b k e), fun b e k => ?_⟩, hF⟩
  rcases hF b e with e1 | e1
  · exact h.ap b e1 k
  · have := rfRep.lt h.m.is b k; omega
/-- The document's has turned; blocks of X may be its own now. -/
theorem Two.turn_m {X : Nat → Prop} (h : Two R w0 w F1 F2 r1 r2 s t) (ht : TurnX X F2 w w1 r2 s1) (hb : RlB s1) (hX : ∀ b, X b → w0.heap.size ≤ b ∧ ¬ F1 b) : ∃ F2', Two R w0 w1 F1 F2' r1 r2 s s1 := by
  obtain ⟨F2', hi, hc, hF⟩ := ht
  have hsz := h.m.below.size
  refine ⟨F2', ⟨h.g.beside hc (fun b e => h.m.new b e) (fun b e k => h.ap b e k), ⟨hi, fun b e => ?_, h.m.below.trans (hc.below hsz (fun b e => h.m.new b e)), hb⟩, fun b e k => ?_⟩⟩
  · rcases hF b e with k | k | k
    · exact h.m.new b k
    · omega
    · exact (hX b k).1
  · rcases hF b k with k | k | k
    · exact h.ap b e k
    · have := R.lt h.g.is b e; omega
    · exact (hX b k).2 e
end
/-- What an act leaves. -/
def DoPost (R : RlRep) (w0 w : World) (F1 F2 : Nat → Prop) (r1 r2 : Nat) (n : Int) (e : Ending) (w' : World) : Prop := e = .returned (.bool true) ∧ ∃ F1' F2' s, Two R w0 w' F1' F2' r1 r2 s s ∧ s.last ≤ n ∧ Chg (fun b => F1 b ∨ F2 b) w w'
/-- What of the two logs' blocks, and of new ones, has turned. -/
abbrev Ch2 (F1 F2 : Nat → Prop) (w w' : World) : Prop := Chg (fun b => F1 b ∨ F2 b) w w'
theorem Ch2.start {F1 F2 : Nat → Prop} {w w' : World} (h : Below w.heap.size w w') : Ch2 F1 F2 w w' := Chg.of_below h
theorem Ch2.below {F1 F2 : Nat → Prop} {w w' w2 : World} (h : Ch2 F1 F2 w w') (hb : Below w'.heap.size w' w2) : Ch2 F1 F2 w w2 := Chg.trans h (Chg.of_below (S := fun b => F1 b ∨ F2 b) hb) (fun b e => .inl e)
theorem Ch2.g {F1 F2 : Nat → Prop} {w w' w2 : World} (h : Ch2 F1 F2 w w') (hc : Chg F1 w' w2) : Ch2 F1 F2 w w2 := Chg.trans h hc (fun b e => .inl (.inl e))
theorem Ch2.m {F1 F2 : Nat → Prop} {w w' w2 : World} (h : Ch2 F1 F2 w w') (hc : Chg F2 w' w2) : Ch2 F1 F2 w w2 := Chg.trans h hc (fun b e => .inl (.inr e))
theorem Ch2.drew {F1 F2 : Nat → Prop} {w w' : World} (h : Ch2 F1 F2 w w') : Ch2 F1 F2 w w'.drew := Chg.drewN h 1
end Go.Proofs.Ytiffdhihhggkhaa
