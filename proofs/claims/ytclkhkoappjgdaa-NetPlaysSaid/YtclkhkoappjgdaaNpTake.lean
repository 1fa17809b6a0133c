/-
  LAYER 6 (net), THE PROGRAM: Take.
-/
import Derived.Test.YtclkhkoappjgdaaNpApart
import Derived.Test.YtclkhkoappjgdaaNpLose
namespace Go.Proofs.Ytclkhkoappjgdaa
open Go.RowKit Go.Maps
set_option linter.unusedVariables false
set_option maxRecDepth 100000

section
variable {w : World} {T : Nat → Prop} {r : Nat} {lv fv : Value} {s : Nt}
theorem pTake_no (h : PNet w T r lv fv s) {k : Int} (hk : k < 0 ∨ (s.L.length : Int) ≤ k) :
    Calls Try.prog 22 #[.pointer (some ⟨r, 0, none⟩), .int .i64 k] w fun e w' => e = .returned (.tuple #[.agg #[.int .i64 0, .int .i64 0, .string ⟨#[]⟩], .bool false]) ∧ Below w.heap.size w w' := by
  have hb0 : Below w.heap.size w (w.alloc pl0) := (Below.refl _ _).alloc (Nat.le_refl _) _
  have hz : (w.alloc pl0).heap.size = w.heap.size + 1 := by simp
  have HL := hid (pLook_no (h.below hb0) hk)
  have HB : Hid (∀ w1, Below (w.alloc pl0).heap.size (w.alloc pl0) w1 → ¬ w1.heap.size = w.heap.size ∧ ¬ w.heap.size = w1.heap.size ∧
      Box3 (w1.alloc pl0) w.heap.size (.int .i64 0) (.int .i64 0) (.string ⟨#[]⟩) (.int .i64 0) (.int .i64 0) (.string ⟨#[]⟩) ∧ Hid (Below w.heap.size w (st3 (w1.alloc pl0) w.heap.size (.int .i64 0) (.int .i64 0) (.string ⟨#[]⟩)))) := hid (fun w1 hb => by
    have z := hb.size
    have o1 : own w1 w.heap.size #[.int .i64 0, .int .i64 0, .string ⟨#[]⟩] 37 := (own.new w _ _).same (hb.block _ (by omega))
    have o2 : own (w1.alloc pl0) w.heap.size #[.int .i64 0, .int .i64 0, .string ⟨#[]⟩] 37 := o1.same (Below.heap_alloc _ _ _ (by omega))
    refine ⟨by omega, by omega, box3_of o2 _ _ _, hid ?_⟩
    exact (((((hb0.trans (hb.mono (by omega))).alloc (by omega) _).setCell (Nat.le_refl _) _).setCell (Nat.le_refl _) _).setCell (Nat.le_refl _) _))
  unfold pl0 at *
  clear h hk hb0 hz
  go_enter Try.func22, Try.ntmps22
  go_wp2_with (go_at_call 36; (with_reducible refine HL.out.mono ?_); rintro e w1 ⟨rfl, hb⟩; obtain ⟨n1, n2, ⟨k0, k1, k2, g0, g1, g2, e0, e1, e2⟩, HT⟩ := HB.out _ hb; clear hb)
  exact bodyPost_ret (v := .tuple #[.agg #[.int .i64 0, .int .i64 0, .string ⟨#[]⟩], .bool false]) (by simp [results, Try.results22, go_sem, e0, e1, e2]) rfl ⟨rfl, HT.out⟩
theorem pTake_apart (h : PNet w T r lv fv s) {k : Nat} (hk : k < s.L.length) {x : Lt} (hx : s.L[k] = x) (ha : s.apart x.fr x.to_ = true) :
    Calls Try.prog 22 #[.pointer (some ⟨r, 0, none⟩), .int .i64 (k : Int)] w fun e w' => e = .returned (.tuple #[.agg #[.int .i64 0, .int .i64 0, .string ⟨#[]⟩], .bool false]) ∧ Below w.heap.size w w' := by
  have hb0 : Below w.heap.size w (w.alloc pl0) := (Below.refl _ _).alloc (Nat.le_refl _) _
  have hz : (w.alloc pl0).heap.size = w.heap.size + 1 := by simp
  have HL := hid (pLook_yes (h.below hb0) hk hx)
  obtain ⟨i1, i2⟩ := h.sane x (by rw [← hx]; exact List.getElem_mem hk)
  have HB : Hid (∀ w1, Below (w.alloc pl0).heap.size (w.alloc pl0) w1 → ¬ w1.heap.size = w.heap.size ∧ ¬ w.heap.size = w1.heap.size ∧
      Hid (Calls Try.prog 19 #[.pointer (some ⟨r, 0, none⟩), .int .i64 x.fr, .int .i64 x.to_] (w1.alloc (pl1 x)) fun e w2 => e = .returned (.bool true) ∧
      Box3 w2 w.heap.size (.int .i64 0) (.int .i64 0) (.string ⟨#[]⟩) (.int .i64 0) (.int .i64 0) (.string ⟨#[]⟩) ∧ Hid (Below w.heap.size w (st3 w2 w.heap.size (.int .i64 0) (.int .i64 0) (.string ⟨#[]⟩))))) := hid (fun w1 hb => by
    have z := hb.size
    have hbA : Below w.heap.size w (w1.alloc (pl1 x)) := (hb0.trans (hb.mono (by omega))).alloc (by omega) _
    have zA : (w1.alloc (pl1 x)).heap.size = w1.heap.size + 1 := by simp
    have o1 : own w1 w.heap.size #[.int .i64 0, .int .i64 0, .string ⟨#[]⟩] 37 := (own.new w _ _).same (hb.block _ (by omega))
    have o2 : own (w1.alloc (pl1 x)) w.heap.size #[.int .i64 0, .int .i64 0, .string ⟨#[]⟩] 37 := o1.same (Below.heap_alloc _ _ _ (by omega))
    refine ⟨by omega, by omega, hid ((pApart_any (h.below hbA) i1 i2).mono ?_)⟩
    rintro e w2 ⟨rfl, hb2⟩
    rw [ha]
    refine ⟨rfl, box3_of (o2.same (hb2.block _ (by omega))) _ _ _, hid ?_⟩
    exact ((((hbA.trans (hb2.mono (by omega))).setCell (Nat.le_refl _) _).setCell (Nat.le_refl _) _).setCell (Nat.le_refl _) _))
  unfold pl0 at *
  unfold pl1 at *
  clear h hk hb0 hz hx ha
  go_enter Try.func22, Try.ntmps22
  go_wp2_with (first
    | (go_at_call 36; (with_reducible refine HL.out.mono ?_); rintro e w1 ⟨rfl, hb⟩; obtain ⟨n1, n2, HA⟩ := HB.out _ hb; clear hb)
    | (go_at_call 19; (with_reducible refine HA.out.mono ?_); rintro e w2 ⟨rfl, ⟨k0, k1, k2, g0, g1, g2, e0, e1, e2⟩, HT⟩))
  exact bodyPost_ret (v := .tuple #[.agg #[.int .i64 0, .int .i64 0, .string ⟨#[]⟩], .bool false]) (by simp [results, Try.results22, go_sem, e0, e1, e2]) rfl ⟨rfl, HT.out⟩
set_option maxHeartbeats 2000000 in
theorem pTake_yes (h : PNet w T r lv fv s) {k : Nat} (hk : k < s.L.length) {x : Lt} (hx : s.L[k] = x) (ha : s.apart x.fr x.to_ = false) :
    Calls Try.prog 22 #[.pointer (some ⟨r, 0, none⟩), .int .i64 (k : Int)] w (PullPost w T r lv fv s k x) := by
  have hb0 : Below w.heap.size w (w.alloc pl0) := (Below.refl _ _).alloc (Nat.le_refl _) _
  have hz : (w.alloc pl0).heap.size = w.heap.size + 1 := by simp
  have HL := hid (pLook_yes (h.below hb0) hk hx)
  obtain ⟨i1, i2⟩ := h.sane x (by rw [← hx]; exact List.getElem_mem hk)
  have hlv := h.row.lt
  have hr := h.head.lt
  have HB : Hid (∀ w1, Below (w.alloc pl0).heap.size (w.alloc pl0) w1 → ¬ w1.heap.size = w.heap.size ∧ ¬ w.heap.size = w1.heap.size ∧
      Hid (Calls Try.prog 19 #[.pointer (some ⟨r, 0, none⟩), .int .i64 x.fr, .int .i64 x.to_] (w1.alloc (pl1 x)) fun e w2 => e = .returned (.bool false) ∧
        Hid (Calls Try.prog 37 #[.pointer (some ⟨r, 0, none⟩), .int .i64 (k : Int)] w2 fun e w3 => e = .returned (.tuple #[.agg #[.int .i64 x.fr, .int .i64 x.to_, .string x.dt], .bool true]) ∧
      Box3 w3 w.heap.size (.int .i64 0) (.int .i64 0) (.string ⟨#[]⟩) (.int .i64 x.fr) (.int .i64 x.to_) (.string x.dt) ∧ Hid (PullPost w T r lv fv s k x (.returned (.tuple #[.agg #[.int .i64 x.fr, .int .i64 x.to_, .string x.dt], .bool true])) (st3 w3 w.heap.size (.int .i64 x.fr) (.int .i64 x.to_) (.string x.dt)))))) := hid (fun w1 hb => by
    have z := hb.size
    have hbA : Below w.heap.size w (w1.alloc (pl1 x)) := (hb0.trans (hb.mono (by omega))).alloc (by omega) _
    have zA : (w1.alloc (pl1 x)).heap.size = w1.heap.size + 1 := by simp
    have o1 : own w1 w.heap.size #[.int .i64 0, .int .i64 0, .string ⟨#[]⟩] 37 := (own.new w _ _).same (hb.block _ (by omega))
    have o2 : own (w1.alloc (pl1 x)) w.heap.size #[.int .i64 0, .int .i64 0, .string ⟨#[]⟩] 37 := o1.same (Below.heap_alloc _ _ _ (by omega))
    refine ⟨by omega, by omega, hid ((pApart_any (h.below hbA) i1 i2).mono ?_)⟩
    rintro e w2 ⟨rfl, hb2⟩
    rw [ha]
    have hbB := hbA.trans (hb2.mono (by omega))
    have zB := hb2.size
    refine ⟨rfl, hid ((pPull_yes (h.below hbB) hk hx).mono ?_)⟩
    rintro e w3 ⟨rfl, lv2, ht⟩
    have hno : ¬ (w.heap.size = r ∨ lv.ownBlock = some w.heap.size) := fun e => by
      rcases e with e | e
      · omega
      · have := hlv _ e; omega
    refine ⟨rfl, box3_of ((o2.same (hb2.block _ (by omega))).chg ht.chg hno) _ _ _, hid ⟨rfl, lv2, PTurn.store3 h ((PTurn.of_below h hbB).trans ht) (Nat.le_refl _) (fun e => ?_) _ _ _⟩⟩
    rcases ht.new _ e with e | e
    · have := hlv _ e; omega
    · omega)
  unfold pl0 at *
  unfold pl1 at *
  clear h hk hb0 hz hx ha hlv
  go_enter Try.func22, Try.ntmps22
  go_wp2_with (first
    | (go_at_call 36; (with_reducible refine HL.out.mono ?_); rintro e w1 ⟨rfl, hb⟩; obtain ⟨n1, n2, HA⟩ := HB.out _ hb; clear hb)
    | (go_at_call 19; (with_reducible refine HA.out.mono ?_); rintro e w2 ⟨rfl, HP⟩)
    | (go_at_call 37; (with_reducible refine HP.out.mono ?_); rintro e w3 ⟨rfl, ⟨k0, k1, k2, g0, g1, g2, e0, e1, e2⟩, HT⟩))
  exact bodyPost_ret (v := .tuple #[.agg #[.int .i64 x.fr, .int .i64 x.to_, .string x.dt], .bool true]) (by simp [results, Try.results22, go_sem, e0, e1, e2]) rfl HT.out
end
end Go.Proofs.Ytclkhkoappjgdaa
