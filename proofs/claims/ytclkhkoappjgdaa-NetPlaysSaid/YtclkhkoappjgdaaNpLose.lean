/-
  LAYER 6 (net), THE PROGRAM: pull where there is a letter; Lose.
-/
import Derived.Test.YtclkhkoappjgdaaNpPull
namespace Go.Proofs.Ytclkhkoappjgdaa
open Go.RowKit Go.Maps
set_option linter.unusedVariables false
set_option maxRecDepth 100000

section
variable {w : World} {T : Nat → Prop} {r : Nat} {lv fv : Value} {s : Nt}
set_option maxHeartbeats 2000000 in
theorem pPull_yes (h : PNet w T r lv fv s) {k : Nat} (hk : k < s.L.length) {x : Lt} (hx : s.L[k] = x) :
    Calls Try.prog 37 #[.pointer (some ⟨r, 0, none⟩), .int .i64 (k : Int)] w (PullPost w T r lv fv s k x) := by
  obtain ⟨g, cap, hlv, hlc, hgl, _⟩ := h.letter hk hx
  have hr := h.head.lt
  have hll := h.ll
  have hb0 : Below w.heap.size w (w.alloc pl0) := (Below.refl _ _).alloc (Nat.le_refl _) _
  have hz : (w.alloc pl0).heap.size = w.heap.size + 1 := by simp
  have HL := hid (pLook_yes (h.below hb0) hk hx)
  have hW : IntKind.i64.wrap ((k : Int) + 1) = (k : Int) + 1 := IntWalk.i64_in _ (by omega)
  have HB : Hid (∀ w1, Below (w.alloc pl0).heap.size (w.alloc pl0) w1 →
      (w1.alloc (pl1 x)).cell? ⟨r, 0, none⟩ = some (.slice (some ⟨g, 0, none⟩) s.L.length cap) ∧ ¬ w1.heap.size = r ∧ ¬ r = w1.heap.size ∧ ¬ w.heap.size = w1.heap.size ∧ ¬ w1.heap.size = w.heap.size ∧
      Hid (Calls Try.prog 40 #[.slice (some ⟨g, 0, none⟩) s.L.length cap, .int .i64 (k : Int), .int .i64 ((k : Int) + 1)] (w1.alloc (pl1 x)) (DelPost (w1.alloc (pl1 x)) g cap s.L k)) ∧
      Hid (∀ e w2, DelPost (w1.alloc (pl1 x)) g cap s.L k e w2 → w2.cell? ⟨r, 0, none⟩ = some (.slice (some ⟨g, 0, none⟩) s.L.length cap) ∧ w2.frozen? ⟨r, 0, none⟩ = false ∧
        Box3 w2 w1.heap.size (.int .i64 x.fr) (.int .i64 x.to_) (.string x.dt) (.int .i64 x.fr) (.int .i64 x.to_) (.string x.dt) ∧
        Box3 (w2.setCell ⟨r, 0, none⟩ (.slice (some ⟨g, 0, none⟩) (s.L.length - 1) cap)) w.heap.size (.int .i64 0) (.int .i64 0) (.string ⟨#[]⟩) (.int .i64 x.fr) (.int .i64 x.to_) (.string x.dt) ∧
        Hid (PTurn w (st3 (w2.setCell ⟨r, 0, none⟩ (.slice (some ⟨g, 0, none⟩) (s.L.length - 1) cap)) w.heap.size (.int .i64 x.fr) (.int .i64 x.to_) (.string x.dt)) T r lv (.slice (some ⟨g, 0, none⟩) (s.L.length - 1) cap) fv (s.out k)))) := hid (fun w1 hb => by
    have z := hb.size
    have hbA : Below w.heap.size w (w1.alloc (pl1 x)) := (hb0.trans (hb.mono (by omega))).alloc (by omega) _
    have hA := h.below hbA
    have zA : (w1.alloc (pl1 x)).heap.size = w1.heap.size + 1 := by simp
    have o1 : own w1 w.heap.size #[.int .i64 0, .int .i64 0, .string ⟨#[]⟩] 37 := (own.new w _ _).same (hb.block _ (by omega))
    have o2 : own (w1.alloc (pl1 x)) w.heap.size #[.int .i64 0, .int .i64 0, .string ⟨#[]⟩] 37 := o1.same (Below.heap_alloc _ _ _ (by omega))
    have o3 : own (w1.alloc (pl1 x)) w1.heap.size #[.int .i64 x.fr, .int .i64 x.to_, .string x.dt] 37 := own.new w1 _ _
    have hrow := hA.row
    rw [hlv] at hrow
    refine ⟨by rw [← hlv]; exact (hA.head.cell 0).trans rfl, by omega, by omega, by omega, by omega, hid (del_any hrow hk (by omega)), hid (fun e w2 hd => ?_)⟩
    have hc := hd.2.2
    have hT := hA.cut hlv hk hd
    have q3 := o3.chg hc (by show ¬ (w1.heap.size = g); omega)
    have q2 := (o2.chg hc (by show ¬ (w.heap.size = g); omega)).other (p := ⟨r, 0, none⟩) (by show w.heap.size ≠ r; omega) (.slice (some ⟨g, 0, none⟩) (s.L.length - 1) cap)
    have q0 := hA.head.chg hc (by show ¬ (r = g); exact fun e => hA.ap1 (by rw [hlv, e]; rfl))
    refine ⟨by rw [← hlv]; exact (q0.cell 0).trans rfl, q0.frozen 0, box3_of q3 _ _ _, box3_of q2 _ _ _, hid (PTurn.store3 h ((PTurn.of_below h hbA).trans hT) (Nat.le_refl _) (fun e => Nat.lt_irrefl g (by have e2 : g = w.heap.size := Option.some.inj e; rw [← e2] at hgl; exact hgl)) _ _ _)⟩)
  unfold pl0 at *
  unfold pl1 at *
  clear h hk hb0 hz hlv hgl hlc hx
  go_enter Try.func37, Try.ntmps37
  go_wp2_with (first
    | (go_at_call 36; (with_reducible refine HL.out.mono ?_); rintro e w1 ⟨rfl, hb⟩; obtain ⟨c0, n1, n2, n3, n4, HD, HE⟩ := HB.out _ hb; clear hb)
    | (go_at_call 40; (with_reducible refine HD.out.mono ?_); rintro e w2 hd; obtain ⟨c2, f2, ⟨k0, k1, k2, -, -, -, -, -, -⟩, ⟨j0, j1, j2, g0, g1, g2, e0, e1, e2⟩, HT⟩ := HE.out _ _ hd; obtain ⟨rfl, -, -⟩ := hd))
  exact bodyPost_ret (v := .tuple #[.agg #[.int .i64 x.fr, .int .i64 x.to_, .string x.dt], .bool true]) (by simp [results, Try.results37, go_sem, e0, e1, e2]) rfl ⟨rfl, _, HT.out⟩
theorem pLose_no (h : PNet w T r lv fv s) {k : Int} (hk : k < 0 ∨ (s.L.length : Int) ≤ k) :
    Calls Try.prog 26 #[.pointer (some ⟨r, 0, none⟩), .int .i64 k] w fun e w' => e = .returned (.bool false) ∧ Below w.heap.size w w' := by
  have H := hid (pPull_no h hk)
  clear h hk
  go_enter Try.func26, Try.ntmps26
  go_wp2_with (go_at_call 37; (with_reducible refine H.out.mono ?_); rintro e w1 ⟨rfl, hb⟩)
  go_ret
  exact ⟨rfl, hb.alloc hb.size _⟩
end
end Go.Proofs.Ytclkhkoappjgdaa
