/-
  LAYER 6 (net), THE DOCUMENT's ANSWER: Take.
-/
import Derived.Test.YtclkhkoappjgdaaNtRef3
namespace Go.Proofs.Ytclkhkoappjgdaa
open Go.RowKit
set_option linter.unusedVariables false
set_option maxRecDepth 100000

theorem RAt.lt {α : Type} {R : RowTy α} {w : World} {v : Value} {L : List α} (h : RAt R w v L) (hL : L ≠ []) : ∀ b, v.ownBlock = some b → b < w.heap.size := by
  obtain ⟨a, cap, rfl, h1, h2, h3, h4⟩ := h
  obtain ⟨sb, so, rfl, hlt, _⟩ := h4 hL
  intro b e
  cases e
  exact hlt
abbrev res0 : Obj := .cells #[.int .i64 0, .int .i64 0, .string ⟨#[]⟩] 36
/-- A box of a letter, known, and stored anew. -/
structure Box3 (w2 : World) (b : Nat) (a0 a1 a2 u0 u1 u2 : Value) : Prop where
  k0 : w2.cell? ⟨b, 0, none⟩ = some a0
  k1 : w2.cell? ⟨b, 1, none⟩ = some a1
  k2 : w2.cell? ⟨b, 2, none⟩ = some a2
  f0 : w2.frozen? ⟨b, 0, none⟩ = false
  f1 : w2.frozen? ⟨b, 1, none⟩ = false
  f2 : w2.frozen? ⟨b, 2, none⟩ = false
  e0 : (((w2.setCell ⟨b, 0, none⟩ u0).setCell ⟨b, 1, none⟩ u1).setCell ⟨b, 2, none⟩ u2).cell? ⟨b, 0, none⟩ = some u0
  e1 : (((w2.setCell ⟨b, 0, none⟩ u0).setCell ⟨b, 1, none⟩ u1).setCell ⟨b, 2, none⟩ u2).cell? ⟨b, 1, none⟩ = some u1
  e2 : (((w2.setCell ⟨b, 0, none⟩ u0).setCell ⟨b, 1, none⟩ u1).setCell ⟨b, 2, none⟩ u2).cell? ⟨b, 2, none⟩ = some u2
theorem box3_of {w2 : World} {b : Nat} {a0 a1 a2 : Value} {T : TypeId} (h : own w2 b #[a0, a1, a2] T) (u0 u1 u2 : Value) : Box3 w2 b a0 a1 a2 u0 u1 u2 :=
  ⟨(h.cell 0).trans rfl, (h.cell 1).trans rfl, (h.cell 2).trans rfl, h.frozen 0, h.frozen 1, h.frozen 2, ((((h.set 0 u0).set 1 u1).set 2 u2).cell 0).trans rfl, ((((h.set 0 u0).set 1 u1).set 2 u2).cell 1).trans rfl, ((((h.set 0 u0).set 1 u1).set 2 u2).cell 2).trans rfl⟩
theorem RTurn.store3 {w w2 : World} {r : Nat} {lv lv' gv : Value} {s s' : Nt} (h : RNet w r lv gv s) (ht : RTurn w w2 r lv lv' gv s') (hG : s'.G = s.G) {b : Nat} (hb : w.heap.size ≤ b) (hne : lv'.ownBlock ≠ some b) (u0 u1 u2 : Value) : RTurn w (((w2.setCell ⟨b, 0, none⟩ u0).setCell ⟨b, 1, none⟩ u1).setCell ⟨b, 2, none⟩ u2) r lv lv' gv s' := by
  have hr := h.head.lt
  have hs : ∀ q, q ≠ b → (((w2.setCell ⟨b, 0, none⟩ u0).setCell ⟨b, 1, none⟩ u1).setCell ⟨b, 2, none⟩ u2).heap[q]? = w2.heap[q]? := fun q hq => by
    rw [Below.heap_setCell _ _ _ _ hq, Below.heap_setCell _ _ _ _ hq, Below.heap_setCell _ _ _ _ hq]
  have hsz : (((w2.setCell ⟨b, 0, none⟩ u0).setCell ⟨b, 1, none⟩ u1).setCell ⟨b, 2, none⟩ u2).heap.size = w2.heap.size := by rw [setCell_size, setCell_size, setCell_size]
  refine ⟨⟨ht.is.head.same (hs r (by omega)), ht.is.row.keep (fun _ q e _ => hs q (fun h' => hne (by rw [e, h']))) (by omega), ht.is.grp.keep (fun hL q e _ => hs q (fun h' => by have := h.grp.lt (by rw [← hG]; exact hL) q e; omega)) (by omega), ht.is.ap1, ht.is.ap2, ht.is.ll, ht.is.gl, ht.is.lo, fun q e => by rw [hsz]; exact ht.is.lt q e⟩, ?_, fun q e => by rw [hsz]; exact ht.new q e⟩
  exact (((ht.chg.trans (Chg.setCell w2 ⟨b, 0, none⟩ u0) (fun q e => .inr (by subst e; exact hb))).trans (Chg.setCell _ ⟨b, 1, none⟩ u1) (fun q e => .inr (by subst e; exact hb))).trans (Chg.setCell _ ⟨b, 2, none⟩ u2) (fun q e => .inr (by subst e; exact hb)))
section
variable {w : World} {r : Nat} {lv gv : Value} {s : Nt}
theorem rTake_apart (h : RNet w r lv gv s) {k : Nat} (hk : k < s.L.length) {x : Lt} (hx : s.L[k] = x) (ha : s.apart x.fr x.to_ = true) :
    Calls Try.prog 29 #[.pointer (some ⟨r, 0, none⟩), .int .i64 (k : Int)] w fun e w' => e = .returned (.tuple #[.agg #[.int .i64 0, .int .i64 0, .string ⟨#[]⟩], .bool false]) ∧ Below w.heap.size w w' := by
  have hb0 : Below w.heap.size w (w.alloc res0) := (Below.refl _ _).alloc (Nat.le_refl _) _
  have hb1 : Below w.heap.size w ((w.alloc res0).alloc (rl1 x)) := hb0.alloc hb0.size _
  have H := hid (rIs_yes (h.below hb0) hk)
  have HA0 := rApart_any (h.below hb1) x.fr x.to_
  rw [ha] at HA0
  have HA := hid HA0
  obtain ⟨sb, so, cap, hlv, hlt, c1, c2, c3⟩ := h.letter hk hx
  have d0 : (w.alloc (.cells #[.int .i64 0, .int .i64 0, .string ⟨#[]⟩] 36)).cell? ⟨r, 0, none⟩ = some (.slice (some ⟨sb, so, none⟩) s.L.length cap) := by rw [← hlv]; exact (hb0.cell (p := ⟨r, 0, none⟩) h.head.lt).trans ((h.head.cell 0).trans rfl)
  have d1 : (w.alloc (.cells #[.int .i64 0, .int .i64 0, .string ⟨#[]⟩] 36)).cell? ⟨sb, so + k * 3, none⟩ = some (.int .i64 x.fr) := (hb0.cell (p := ⟨sb, so + k * 3, none⟩) hlt).trans c1
  have d2 : (w.alloc (.cells #[.int .i64 0, .int .i64 0, .string ⟨#[]⟩] 36)).cell? ⟨sb, so + k * 3 + 1, none⟩ = some (.int .i64 x.to_) := (hb0.cell (p := ⟨sb, so + k * 3 + 1, none⟩) hlt).trans c2
  have d3 : (w.alloc (.cells #[.int .i64 0, .int .i64 0, .string ⟨#[]⟩] 36)).cell? ⟨sb, so + k * 3 + 2, none⟩ = some (.string x.dt) := (hb0.cell (p := ⟨sb, so + k * 3 + 2, none⟩) hlt).trans c3
  have hkI : (k : Int) < (s.L.length : Int) := by omega
  have HB1 := hid hb1
  clear h hx ha HA0 hlv c1 c2 c3 hb0 hb1
  go_enter Try.func29, Try.ntmps29
  go_wp2_with (first
    | (go_at_call 38; (with_reducible refine H.out.mono ?_); rintro e w1 ⟨rfl, rfl⟩)
    | (go_at_call 20; (with_reducible refine HA.out.mono ?_); rintro e w2 ⟨rfl, rfl⟩))
  refine bodyPost_ret (v := .tuple #[.agg #[.int .i64 0, .int .i64 0, .string ⟨#[]⟩], .bool false]) (by simp [results, Try.results29, go_sem]) rfl ⟨rfl, ?_⟩
  exact HB1.out
theorem rTake_yes (h : RNet w r lv gv s) {k : Nat} (hk : k < s.L.length) {x : Lt} (hx : s.L[k] = x) (ha : s.apart x.fr x.to_ = false) :
    Calls Try.prog 29 #[.pointer (some ⟨r, 0, none⟩), .int .i64 (k : Int)] w fun e w' => e = .returned (.tuple #[.agg #[.int .i64 x.fr, .int .i64 x.to_, .string x.dt], .bool true]) ∧ ∃ lv', RTurn w w' r lv lv' gv (s.out k) := by
  have hb0 : Below w.heap.size w (w.alloc res0) := (Below.refl _ _).alloc (Nat.le_refl _) _
  have hb1 : Below w.heap.size w ((w.alloc res0).alloc (rl1 x)) := hb0.alloc hb0.size _
  have z0 : (w.alloc res0).heap.size = w.heap.size + 1 := by simp
  have z1 : ((w.alloc res0).alloc (rl1 x)).heap.size = w.heap.size + 2 := by simp
  have H := hid (rIs_yes (h.below hb0) hk)
  have HA0 := rApart_any (h.below hb1) x.fr x.to_
  rw [ha] at HA0
  have HA := hid HA0
  have HO := hid (rOut_any (h.below hb1) k hk)
  obtain ⟨sb, so, cap, hlv, hlt, c1, c2, c3⟩ := h.letter hk hx
  have hr := h.head.lt
  have ob1 : own ((w.alloc res0).alloc (rl1 x)) (w.heap.size + 1) #[.int .i64 x.fr, .int .i64 x.to_, .string x.dt] 36 := by rw [← z0]; exact own.new (w.alloc res0) _ _
  have ob0 : own ((w.alloc res0).alloc (rl1 x)) w.heap.size #[.int .i64 0, .int .i64 0, .string ⟨#[]⟩] 36 := own.same (own.new w _ 36) (Below.heap_alloc _ _ _ (by rw [z0]; omega))
  have HE : Hid (∀ w2 lv2, RTurn ((w.alloc res0).alloc (rl1 x)) w2 r lv lv2 gv (s.out k) → Box3 w2 w.heap.size (.int .i64 0) (.int .i64 0) (.string ⟨#[]⟩) (.int .i64 x.fr) (.int .i64 x.to_) (.string x.dt) ∧
      Box3 w2 (w.heap.size + 1) (.int .i64 x.fr) (.int .i64 x.to_) (.string x.dt) (.int .i64 x.fr) (.int .i64 x.to_) (.string x.dt) ∧ Hid (RTurn w (((w2.setCell ⟨w.heap.size, 0, none⟩ (.int .i64 x.fr)).setCell ⟨w.heap.size, 1, none⟩ (.int .i64 x.to_)).setCell ⟨w.heap.size, 2, none⟩ (.string x.dt)) r lv lv2 gv (s.out k))) := hid (fun w2 lv2 ht => by
    have hT := (RTurn.of_below h hb1).trans ht
    refine ⟨box3_of (ob0.chg ht.chg (fun e => by omega)) _ _ _, box3_of (ob1.chg ht.chg (fun e => by omega)) _ _ _, hid (RTurn.store3 h hT rfl (Nat.le_refl _) (fun e => ?_) _ _ _)⟩
    rcases ht.new _ e with e | e
    · have := h.lt _ e; omega
    · omega)
  have d0 : (w.alloc (.cells #[.int .i64 0, .int .i64 0, .string ⟨#[]⟩] 36)).cell? ⟨r, 0, none⟩ = some (.slice (some ⟨sb, so, none⟩) s.L.length cap) := by rw [← hlv]; exact (hb0.cell (p := ⟨r, 0, none⟩) h.head.lt).trans ((h.head.cell 0).trans rfl)
  have d1 : (w.alloc (.cells #[.int .i64 0, .int .i64 0, .string ⟨#[]⟩] 36)).cell? ⟨sb, so + k * 3, none⟩ = some (.int .i64 x.fr) := (hb0.cell (p := ⟨sb, so + k * 3, none⟩) hlt).trans c1
  have d2 : (w.alloc (.cells #[.int .i64 0, .int .i64 0, .string ⟨#[]⟩] 36)).cell? ⟨sb, so + k * 3 + 1, none⟩ = some (.int .i64 x.to_) := (hb0.cell (p := ⟨sb, so + k * 3 + 1, none⟩) hlt).trans c2
  have d3 : (w.alloc (.cells #[.int .i64 0, .int .i64 0, .string ⟨#[]⟩] 36)).cell? ⟨sb, so + k * 3 + 2, none⟩ = some (.string x.dt) := (hb0.cell (p := ⟨sb, so + k * 3 + 2, none⟩) hlt).trans c3
  have hkI : (k : Int) < (s.L.length : Int) := by omega
  have n1 : ¬ w.heap.size + 1 = w.heap.size := by omega
  have n2 : ¬ w.heap.size = w.heap.size + 1 := by omega
  clear h hx ha HA0 hlv c1 c2 c3 hb0 hb1 z0 z1 ob0 ob1
  go_enter Try.func29, Try.ntmps29
  go_wp2_with (first
    | (go_at_call 38; (with_reducible refine H.out.mono ?_); rintro e w1 ⟨rfl, rfl⟩)
    | (go_at_call 20; (with_reducible refine HA.out.mono ?_); rintro e w2 ⟨rfl, rfl⟩)
    | (go_at_call 28; (with_reducible refine HO.out.mono ?_); rintro e w3 ⟨rfl, lv2, ht⟩; obtain ⟨⟨k0, k1, k2, f0, f1, f2, e0, e1, e2⟩, ⟨j0, j1, j2, _, _, _, _, _, _⟩, HT⟩ := HE.out _ _ ht; clear ht))
  exact bodyPost_ret (v := .tuple #[.agg #[.int .i64 x.fr, .int .i64 x.to_, .string x.dt], .bool true]) (by simp [results, Try.results29, go_sem, e0, e1, e2]) rfl ⟨rfl, lv2, HT.out⟩
end
end Go.Proofs.Ytclkhkoappjgdaa
