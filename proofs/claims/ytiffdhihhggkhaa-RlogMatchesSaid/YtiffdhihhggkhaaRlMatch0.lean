/-
  LAYER 8 (rlog), for RlogMatches: a log, a base in its box, a row apart.
-/
import Derived.Test.YtiffdhihhggkhaaRlAdd0
namespace Go.Proofs.Ytiffdhihhggkhaa
open Go.RowKit
set_option linter.unusedVariables false
set_option maxRecDepth 100000

structure MtSt (R : RlRep) (w wx : World) (F : Nat → Prop) (r : Nat) (g : Rl) (xa ga : Nat) (b : Int) (v : Value) (W : List Me) : Prop where
  lg : Lg R w wx F r g
  bx : BxAt wx xa ga b 1
  nx : ¬ F xa ∧ ¬ F ga
  was : Apart enTy wx F v W
section
variable {R : RlRep} {w wx w' : World} {F F' : Nat → Prop} {r : Nat} {g g' : Rl} {v : Value} {W : List Me} {xa ga : Nat} {b : Int}
theorem MtSt.later (h : MtSt R w wx F r g xa ga b v W) (hb : Below wx.heap.size wx w') : MtSt R w w' F r g xa ga b v W := ⟨h.lg.later hb, h.bx.below hb, h.nx, h.was.below hb⟩
theorem MtSt.turn (h : MtSt R w wx F r g xa ga b v W) (hL : Lg R w w' F' r g') (hc : Chg F wx w') (hF : ∀ b, F' b → F b ∨ wx.heap.size ≤ b) : MtSt R w w' F' r g' xa ga b v W := by
  have h1 : ∀ k, ¬ F k → k < wx.heap.size → ¬ F' k := fun k h1 h2 h3 => by
    rcases hF k h3 with h4 | h4
    · exact h1 h4
    · omega
  exact ⟨hL, h.bx.turn hc h.nx.1 h.nx.2, ⟨h1 _ h.nx.1 h.bx.box.lt, h1 _ h.nx.2 h.bx.glt⟩, h.was.turn hc hF⟩
end
theorem Matched.fixed {g g' : Rl} {index term fixed n f : Int} {l : List Me} (h : Matched g index term fixed l n f g') (hf : g.bi ≤ fixed) (hfl : fixed ≤ g.last) : fixed ≤ g'.last := by
  rcases h.or with ⟨h1, h2, _⟩ | ⟨k, hd, h1, h2⟩
  · subst h2; exact hfl
  · obtain ⟨h3, h4⟩ := diffAt_where hd h.le hf hfl
    have hk := (diffAt_some l g fixed index k hd).1
    subst h2
    unfold Rl.last at h4 ⊢
    simp only [List.length_append, List.length_take, reidx_len, List.length_drop]
    omega
def MaRel (w9 : World) (n : Nat) (u : Value) (wr : World) : Prop := ∃ k : Nat, k ≤ n ∧ u = .int .i64 (k : Int) ∧ Hid (Below w9.heap.size w9 wr)
/-- The cells of a row of one entry that has just been made. -/
theorem one_cells {w w' : World} {a : Option Addr} {c : Nat} {s : Me} (h : RMid enTy w w' (.slice a 1 c) [s]) : ∃ g, a = some ⟨g, 0, none⟩ ∧ ∀ wx, Below w'.heap.size w' wx → wx.cell? ⟨g, 0, none⟩ = some (.int .i64 s.idx) ∧ wx.cell? ⟨g, 1, none⟩ = some (.int .i64 s.term) ∧ wx.cell? ⟨g, 2, none⟩ = some (.int .i64 s.kind) ∧ wx.cell? ⟨g, 3, none⟩ = some (.string s.dt) := by
  obtain ⟨g, e, hlt, hc, _⟩ := h.row.at enTy_ok (by show 0 < 1; omega)
  have h0 := hc 0 s rfl
  refine ⟨g, e, fun wx hb => ⟨(hb.cell (p := ⟨g, 0, none⟩) hlt).trans (h0 0 _ rfl), (hb.cell (p := ⟨g, 1, none⟩) hlt).trans (h0 1 _ rfl), (hb.cell (p := ⟨g, 2, none⟩) hlt).trans (h0 2 _ rfl), (hb.cell (p := ⟨g, 3, none⟩) hlt).trans (h0 3 _ rfl)⟩⟩
/-- The k-th entry's cells, of a row that lies at w, in any world behind it. -/
theorem en_cells {w : World} {a : Option Addr} {n cap : Nat} {L : List Me} (h : RAt enTy w (.slice a n cap) L) (k : Nat) (x : Me) (hk : L[k]? = some x) : ∃ sb so, a = some ⟨sb, so, none⟩ ∧ ∀ wx, Below w.heap.size w wx → wx.cell? ⟨sb, so + k * 4, none⟩ = some (.int .i64 x.idx) ∧ wx.cell? ⟨sb, so + k * 4 + 1, none⟩ = some (.int .i64 x.term) ∧ wx.cell? ⟨sb, so + k * 4 + 2, none⟩ = some (.int .i64 x.kind) ∧ wx.cell? ⟨sb, so + k * 4 + 3, none⟩ = some (.string x.dt) := by
  obtain ⟨a', cap', e, hat⟩ := en_at h
  cases e
  exact hat k x hk
end Go.Proofs.Ytiffdhihhggkhaa
