import Derived.Test.YtjoeamlidmmioaaGreatDoorMq6J
import Derived.Test.YtjoeamlidmmioaaGreatDoorMq7J
import Derived.Test.YtjoeamlidmmioaaGreatDoorXmRd2J
/-
  LAYER 12 (tree), THE DOCUMENT's: Parse.
-/
namespace Go.Proofs.YtjoeamlidmmioaaGreatDoor
open Go.RowKit
set_option linter.unusedVariables false
set_option maxRecDepth 100000

theorem two_not {w : World} {b : Nat} (h : own w b #[.string ⟨#[]⟩, .slice none 0 0, .string ⟨#[]⟩, .slice none 0 0] 37) : ¬ Two w b := by
  rintro ⟨o, a, c, h1, h2⟩
  rw [h.cell] at h1 h2
  rcases o with _ | _ | _ | _ | o <;> simp at h1 h2
set_option maxHeartbeats 4000000 in
theorem refParse_any (HBd : ∀ (w : World) (v : Value) (L : List TkX), RokAt w v L → L.length ≤ 100000 → (∀ t ∈ L, t.t.length ≤ 100000) → Calls Tryz.prog 7 #[v] w (RbPost w (buildX L))) (s : List UInt8) (hs : s.length ≤ 20000) (w : World) (R : List TkX × Int × Int) (hR : readR s = R) (hL : R.1.length ≤ 100000) (hT : ∀ t ∈ R.1, t.t.length ≤ 100000) :
    Calls Tryz.prog 9 #[.string (mk s)] w (RbPost w (parseX R)) := by
  have hb1 : Below w.heap.size w (w.alloc (.cells #[.string ⟨#[]⟩, .slice none 0 0, .string ⟨#[]⟩, .slice none 0 0] 37)) := (Below.refl _ _).alloc (Nat.le_refl _) _
  have ho1 : own (w.alloc (.cells #[.string ⟨#[]⟩, .slice none 0 0, .string ⟨#[]⟩, .slice none 0 0] 37)) w.heap.size #[.string ⟨#[]⟩, .slice none 0 0, .string ⟨#[]⟩, .slice none 0 0] 37 := own.new w _ _
  have HR := hid (fun wx => refRead_any s (by omega) wx)
  rw [hR] at HR
  unfold RfPost at HR
  obtain ⟨W1, hW1⟩ : ∃ W1, w.alloc (.cells #[.string ⟨#[]⟩, .slice none 0 0, .string ⟨#[]⟩, .slice none 0 0] 37) = W1 := ⟨_, rfl⟩
  rw [hW1] at hb1 ho1
  have HO : Hid (∀ wr, Below W1.heap.size W1 wr → own wr w.heap.size #[.string ⟨#[]⟩, .slice none 0 0, .string ⟨#[]⟩, .slice none 0 0] 37) := hid (fun wr hb => ho1.same (hb.block _ ho1.lt))
  have HE : Hid (∀ w2 wr x t, Below W1.heap.size W1 w2 → Below w2.heap.size w2 wr → NdIn raTy rdTy wr (fun g => g < w2.heap.size → Two w2 g) x t → ∀ e, (t, e) = parseX R → own ((((wr.setCell ⟨w.heap.size, 0, none⟩ (.string (mk x.n))).setCell ⟨w.heap.size, 1, none⟩ (.slice x.a x.am x.ac)).setCell ⟨w.heap.size, 2, none⟩ (.string (mk x.t))).setCell ⟨w.heap.size, 3, none⟩ (.slice x.k x.km x.kc)) w.heap.size (ndCs x).toArray 37 ∧
      RbPost w (parseX R) (.returned (.tuple #[.agg #[.string (mk x.n), .slice x.a x.am x.ac, .string (mk x.t), .slice x.k x.km x.kc], .int .i64 e])) ((((wr.setCell ⟨w.heap.size, 0, none⟩ (.string (mk x.n))).setCell ⟨w.heap.size, 1, none⟩ (.slice x.a x.am x.ac)).setCell ⟨w.heap.size, 2, none⟩ (.string (mk x.t))).setCell ⟨w.heap.size, 3, none⟩ (.slice x.k x.km x.kc))) := hid (fun w2 wr x t hb hbr hN e he => by
    have hb2 := hb.trans (hbr.mono hb.size)
    have hs2 := HO.out w2 hb
    have hl2 := hs2.lt
    refine ⟨by have := ((((HO.out wr hb2).set 0 (.string (mk x.n))).set 1 (.slice x.a x.am x.ac)).set 2 (.string (mk x.t))).set 3 (.slice x.k x.km x.kc); simpa [ndCs] using this, x, by rw [← he], ?_, ((((hb1.trans (hb2.mono hb1.size)).setCell (Nat.le_refl _) _).setCell (Nat.le_refl _) _).setCell (Nat.le_refl _) _).setCell (Nat.le_refl _) _⟩
    rw [← he]
    refine ndIn_same hN (fun g hg _ => ?_) (fun g hg hl => ?_) (by simp only [setCell_size]; exact Nat.le_refl _)
    · have hne : g ≠ w.heap.size := fun q => by subst q; exact two_not hs2 (hg hl2)
      rw [Below.heap_setCell _ _ _ _ hne, Below.heap_setCell _ _ _ _ hne, Below.heap_setCell _ _ _ _ hne, Below.heap_setCell _ _ _ _ hne]
    · obtain ⟨o, a, c, q1, q2⟩ := hg (by omega)
      have hbw := hb1.trans (hb.mono hb1.size)
      exact ⟨o, a, c, (hbw.cell (p := ⟨g, o, none⟩) hl).symm.trans q1, (hbw.cell (p := ⟨g, o + 1, none⟩) hl).symm.trans q2⟩)
  clear hb1 ho1 hR hs
  have HW := hid hW1
  clear hW1
  obtain ⟨L, er, n⟩ := R
  simp only at HR hL hT
  by_cases he : er = 0
  · subst he
    have HP : Hid (parseX (L, 0, n) = buildX L) := hid (if_pos rfl)
    have HB : Hid (∀ w2 a c, RokAt w2 (.slice a L.length c) L → Calls Tryz.prog 7 #[.slice a L.length c] w2 (RbPost w2 (buildX L))) := hid (fun w2 a c h => HBd w2 _ L h hL hT)
    clear HBd hT
    go_enter Tryz.func9, Tryz.ntmps9
    go_wp2_with (first
      | (go_at_call 15; (with_reducible refine (HR.out _).mono ?_); rintro e w2 ⟨a, c, rfl, h2, h4⟩; (rw [HW.out] at h4); (have HB2 := hid (HB.out w2 a c h2)); clear h2)
      | (go_at_call 7; (with_reducible refine HB2.out.mono ?_); rintro e w3 ⟨x, rfl, hN, hb3⟩; (have hb4 := h4.trans (hb3.mono h4.size)); (have ow := HO.out w3 hb4); (have z0 := ow.cell 0); (have z1 := ow.cell 1); (have z2 := ow.cell 2); (have z3 := ow.cell 3); (have y0 := ow.frozen 0); (have y1 := ow.frozen 1); (have y2 := ow.frozen 2); (have y3 := ow.frozen 3); (simp at z0 z1 z2 z3)))
    obtain ⟨q1, q2⟩ := HE.out w2 w3 x _ h4 hb3 hN _ (by rw [HP.out])
    have c0 := q1.cell 0
    have c1 := q1.cell 1
    have c2 := q1.cell 2
    have c3 := q1.cell 3
    simp [ndCs] at c0 c1 c2 c3
    (try simp only [Exit.inBlock, Exit.then])
    refine bodyPost_ret (v := .tuple #[.agg #[.string (mk x.n), .slice x.a x.am x.ac, .string (mk x.t), .slice x.k x.km x.kc], .int .i64 (buildX L).2]) ?_ rfl q2
    rw [results_cell_tmp rfl]
    go_simp
  · have he2 : ((er : Int) == 0) = false := beq_eq_false_iff_ne.2 he
    have HP : Hid ((tr0, er) = parseX (L, er, n)) := hid (if_neg he).symm
    clear HBd hT
    go_enter Tryz.func9, Tryz.ntmps9
    go_wp2_with (go_at_call 15; (with_reducible refine (HR.out _).mono ?_); rintro e w3 ⟨a, c, rfl, h2, h4⟩; (rw [HW.out] at h4); (have ow := HO.out w3 h4); (have z0 := ow.cell 0); (have z1 := ow.cell 1); (have z2 := ow.cell 2); (have z3 := ow.cell 3); (have y0 := ow.frozen 0); (have y1 := ow.frozen 1); (have y2 := ow.frozen 2); (have y3 := ow.frozen 3); (simp at z0 z1 z2 z3))
    obtain ⟨q1, q2⟩ := HE.out w3 w3 nd0 tr0 h4 (Below.refl _ _) (ndIn_zero _ _) _ HP.out
    have c0 := q1.cell 0
    have c1 := q1.cell 1
    have c2 := q1.cell 2
    have c3 := q1.cell 3
    simp [ndCs] at c0 c1 c2 c3
    (try simp only [Exit.inBlock, Exit.then])
    refine bodyPost_ret (v := .tuple #[.agg #[.string (mk nd0.n), .slice nd0.a nd0.am nd0.ac, .string (mk nd0.t), .slice nd0.k nd0.km nd0.kc], .int .i64 er]) ?_ rfl q2
    rw [results_cell_tmp rfl]
    go_simp
    exact ⟨rfl, ⟨rfl, rfl, rfl⟩, rfl, rfl, rfl, rfl⟩
end Go.Proofs.YtjoeamlidmmioaaGreatDoor

