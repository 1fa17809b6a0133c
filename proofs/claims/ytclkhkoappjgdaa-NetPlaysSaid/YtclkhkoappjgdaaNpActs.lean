/-
  LAYER 6 (net): a row of acts done by the program's net, one by one: what the laws' loops share.
-/
import Derived.Test.YtclkhkoappjgdaaNpDoes
import Derived.Test.YtclkhkoappjgdaaNpShown
import Derived.Test.YtclkhkoappjgdaaNtMath
namespace Go.Proofs.Ytclkhkoappjgdaa
open Go.RowKit Go.Maps
set_option linter.unusedVariables false
set_option maxRecDepth 100000

theorem small_len {l : List Na} (h : smallN l = true) : l.length ≤ 500 := by
  unfold smallN at h
  simp at h
  exact h.1
theorem small_gn {l : List Na} (h : smallN l = true) {a : Na} (ha : a ∈ l) : a.gn ≤ 40 := by
  unfold smallN at h
  simp at h
  have := h.2 a ha
  unfold smOne at this
  simp at this
  exact this.2
/-- An act of the row, at any world that has grown since: its cells, its group. -/
structure ActIn (w : World) (a : Na) (G : List Int) : Prop where
  inn : NaIn w a
  row : RAt numTy w a.gv G
  g64 : ∀ n ∈ G, I64' n
  few : G.length ≤ 40
theorem actIn_of {w : World} {a : Na} (h : NaIn w a) (hs : a.gn ≤ 40) : ∃ G, ActIn w a G := by
  obtain ⟨G, h1, h2, _⟩ := h.grp
  refine ⟨G, h, h1, h2, ?_⟩
  obtain ⟨x, c, e, _⟩ := h1
  unfold Na.gv at e
  simp only [Value.slice.injEq] at e
  omega
/-- The k-th act: its cells in every world since. -/
theorem act_at {w : World} {v : Value} {l : List Na} (h : RAt naTy w v l) (hx : ∀ a ∈ l, NaIn w a) (hs : smallN l = true) : ∃ ao cap, v = .slice ao l.length cap ∧ ∀ k, k < l.length → ∃ a G sb so, ao = some ⟨sb, so, none⟩ ∧ l[k]? = some a ∧ ActIn w a G ∧
    ∀ wx, Below w.heap.size w wx → wx.cell? ⟨sb, so + k * 6, none⟩ = some (.int .i64 a.op) ∧ wx.cell? ⟨sb, so + k * 6 + 1, none⟩ = some (.int .i64 a.k) ∧ wx.cell? ⟨sb, so + k * 6 + 2, none⟩ = some (.int .i64 a.fr) ∧ wx.cell? ⟨sb, so + k * 6 + 3, none⟩ = some (.int .i64 a.to_) ∧ wx.cell? ⟨sb, so + k * 6 + 4, none⟩ = some (.string a.dt) ∧ wx.cell? ⟨sb, so + k * 6 + 5, none⟩ = some (.slice a.ga a.gn a.gc) := by
  obtain ⟨ao, cap, rfl, hat⟩ := na_at h
  refine ⟨ao, cap, rfl, fun k hk => ?_⟩
  have hk2 : l[k]? = some l[k] := List.getElem?_eq_getElem hk
  have hm : l[k] ∈ l := List.getElem_mem hk
  obtain ⟨G, hG⟩ := actIn_of (hx _ hm) (small_gn hs hm)
  obtain ⟨sb, so, e, hlt, c0, c1, c2, c3, c4, c5⟩ := hat k _ hk2
  exact ⟨l[k], G, sb, so, e, hk2, hG, fun wx hb => ⟨(hb.cell (p := ⟨sb, _, none⟩) hlt).trans c0, (hb.cell (p := ⟨sb, _, none⟩) hlt).trans c1, (hb.cell (p := ⟨sb, _, none⟩) hlt).trans c2, (hb.cell (p := ⟨sb, _, none⟩) hlt).trans c3, (hb.cell (p := ⟨sb, _, none⟩) hlt).trans c4, (hb.cell (p := ⟨sb, _, none⟩) hlt).trans c5⟩⟩
/-- An act done. -/
theorem does_act {w wx : World} {X : Nat → Prop} {r : Nat} {s : Nt} {a : Na} {G : List Int} (h : PHas w wx X r s) (hlo : s.lost < 100000) (ha : ActIn w a G) :
    Calls Try.prog 14 #[.pointer (some ⟨r, 0, none⟩), .agg #[.int .i64 a.op, .int .i64 a.k, .int .i64 a.fr, .int .i64 a.to_, .string a.dt, .slice a.ga a.gn a.gc]] wx (DoesPost w wx X r (actN s a G)) :=
  does_any h hlo a ha.inn.op ha.inn.fr ha.inn.to_ (ha.row.below h.below) ha.g64 (by have := ha.few; omega)
end Go.Proofs.Ytclkhkoappjgdaa
