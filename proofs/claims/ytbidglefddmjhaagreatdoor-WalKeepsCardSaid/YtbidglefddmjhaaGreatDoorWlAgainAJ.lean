import Derived.Test.YtbidglefddmjhaaGreatDoorWlFullWJ
import Derived.Test.YtbidglefddmjhaaGreatDoorWlLoadJ
/-
  LAYER 3 (wal), the laws that open a log anew: how a log stands between two acts, and what lies in its segments.
-/
namespace Go.Proofs.YtbidglefddmjhaaGreatDoor
open Go.RowKit Go.Maps
set_option linter.unusedVariables false
set_option maxRecDepth 100000

structure Fa (W wx : World) (T : Nat → Prop) (q p a B0 k : Nat) (s : Dk) (g : Lg) : Prop where
  fu : Fu W wx T q p a B0 k s g
  lie : RecInv s g
  most : s.most = 100000
theorem Fa.later {W wx wy : World} {T : Nat → Prop} {q p a B0 k : Nat} {s : Dk} {g : Lg} (h : Fa W wx T q p a B0 k s g) (hb : Below wx.heap.size wx wy) : Fa W wy T q p a B0 k s g := ⟨h.fu.later hb, h.lie, h.most⟩
def FaRel (W : World) (q p a B0 n : Nat) (i : Value) (wr : World) : Prop := ∃ k T s g, k ≤ n ∧ i = .int .i64 (k : Int) ∧ Fa W wr T q p a B0 k s g
theorem Fa.does {W wx : World} {T : Nat → Prop} {q p a B0 k n : Nat} {s : Dk} {g : Lg} (h : Fa W wx T q p a B0 k s g) (hk : k < n) (hn : n ≤ 40) (ac : Wa) (hac : WaOk ac) (hop : pickZ ac.op 10 < 7) (kv nv : Value) (hkv : ∃ x n c, kv = .slice x n c) (hnv : ∃ x n c, nv = .slice x n c) :
    Calls Tryz.prog 15 #[.pointer (some ⟨q, 0, none⟩), waV ac kv nv] wx fun e wy => ∃ r, e = .returned (.int .i64 r) ∧ FaRel W q p a B0 n (.int .i64 ((k + 1 : Nat) : Int)) wy := by
  have hl := h.fu.lgin.len
  refine (does_any3 h.fu.log h.fu.pair h.fu.tq h.fu.glob (by have := h.fu.b0; have := h.fu.below.size; omega) ac hac hop (by omega) kv nv hkv hnv).mono ?_
  rintro e wy ⟨he, hr⟩
  obtain ⟨a1, a2, a3⟩ := actW_in h.fu.good h.fu.lgin hac
  exact ⟨_, he, k + 1, _, _, _, by omega, rfl, h.fu.run hr a1 a2, h.lie.act h.fu.good h.fu.lgin.ok hac, by rw [a3]; exact h.most⟩
theorem fa_begun {W w w' : World} {q a p mq r ql : Nat} {T S : Nat → Prop} {B0 n : Nat} (hb : Below W.heap.size W w) (hg : Glob w B0) (hB0 : B0 ≤ W.heap.size) (h : Begun w w' q a p mq r ql T S (open0 (newD 100000)).1 (open0 (newD 100000)).1) : FaRel W q p a B0 n (.int .i64 0) w' := by
  obtain ⟨_, k2, k3⟩ := open0_good (m := 100000) (by omega) (by omega)
  have hz := hb.size
  refine ⟨0, T, _, _, Nat.zero_le _, rfl, ⟨h.log, h.pair, h.tq, k2, ⟨g0_ok, fun e he => by simp [g0] at he, by simp [g0], fun e he => by simp [g0] at he⟩, fun b hT => by have := h.ge.1 b hT; omega, by have := h.ge.2.2.1; omega, hg.below h.below (by omega), hB0, hb.trans (h.below.mono hz)⟩, recInv_begin (by omega) (by omega), k3⟩
/-- The log opened anew: beside the old one. -/
structure Two3 (W wx : World) (q p a p5 B0 : Nat) (s : Dk) (g : Lg) : Prop where
  old : ∃ T, LogAt wx T p a s g
  new : ∃ T, LogAt wx T p5 a s g
  pair : PairAt wx q a p
  glob : Glob wx B0
  b0 : B0 ≤ W.heap.size
  below : Below W.heap.size W wx
theorem Two3.later {W wx wy : World} {q p a p5 B0 : Nat} {s : Dk} {g : Lg} (h : Two3 W wx q p a p5 B0 s g) (hb : Below wx.heap.size wx wy) : Two3 W wy q p a p5 B0 s g := by
  obtain ⟨T, h1⟩ := h.old
  obtain ⟨T5, h5⟩ := h.new
  exact ⟨⟨T, h1.below hb⟩, ⟨T5, h5.below hb⟩, own.same h.pair (hb.block _ (own.lt h.pair)), h.glob.below hb (by have := h.b0; have := h.below.size; omega), h.b0, h.below.trans (hb.mono h.below.size)⟩
theorem Two3.cells {W wx : World} {q p a p5 B0 : Nat} {s : Dk} {g : Lg} (h : Two3 W wx q p a p5 B0 s g) : wx.cell? ⟨q, 0, none⟩ = some (.pointer (some ⟨a, 0, none⟩)) ∧ wx.cell? ⟨q, 1, none⟩ = some (.pointer (some ⟨p, 0, none⟩)) :=
  ⟨(own.cell h.pair 0).trans rfl, (own.cell h.pair 1).trans rfl⟩
theorem Fa.opens {W wx : World} {T : Nat → Prop} {q p a B0 k : Nat} {s : Dk} {g : Lg} (h : Fa W wx T q p a B0 k s g) :
    Calls Tryz.prog 29 #[.pointer (some ⟨a, 0, none⟩)] wx fun e wy => ∃ p5, e = .returned (.tuple #[.pointer (some ⟨p5, 0, none⟩), .int .i64 0]) ∧ Two3 W wy q p a p5 B0 s g ∧ Below wx.heap.size wx wy := by
  obtain ⟨⟨S, v, hd, _⟩, _⟩ := h.fu.log
  refine (open_good hd h.fu.good h.fu.glob (by have := h.fu.b0; have := h.fu.below.size; omega) h.lie (by rw [h.most]; omega)).mono ?_
  rintro e wy ⟨p5, T5, rfl, hL5, _, hb, _⟩
  have h2 := h.later hb
  exact ⟨p5, rfl, ⟨⟨T, h2.fu.log⟩, ⟨T5, hL5⟩, h2.fu.pair, h2.fu.glob, h2.fu.b0, h2.fu.below⟩, hb⟩
end Go.Proofs.YtbidglefddmjhaaGreatDoor

