/-
  LAYER 8 (rlog), THE DOCUMENT's LOG: Add.
-/
import Derived.Test.YtiffdhihhggkhaaRlRef5
namespace Go.Proofs.Ytiffdhihhggkhaa
open Go.RowKit
set_option linter.unusedVariables false
set_option maxRecDepth 100000

/-- Behind Add's last statement but one: the answer's box is still to be filled. -/
structure AddEnd (w : World) (F : Nat → Prop) (r : Nat) (s : Rl) (g8 ge : Nat) (x : Me) (W : World) : Prop where
  cells : W.cell? ⟨ge, 0, none⟩ = some (.int .i64 x.idx) ∧ W.cell? ⟨ge, 1, none⟩ = some (.int .i64 x.term) ∧ W.cell? ⟨ge, 2, none⟩ = some (.int .i64 x.kind) ∧ W.cell? ⟨ge, 3, none⟩ = some (.string x.dt)
  box : Box4 W g8 (.int .i64 0) (.int .i64 0) (.int .i64 0) (.string ⟨#[]⟩) (.int .i64 x.idx) (.int .i64 x.term) (.int .i64 x.kind) (.string x.dt)
  turn : Hid (Turn rfRep F w (st4 W g8 (.int .i64 x.idx) (.int .i64 x.term) (.int .i64 x.kind) (.string x.dt)) r { s with ents := s.ents ++ [x] })
set_option maxHeartbeats 16000000 in
theorem rfAdd_any {w : World} {F : Nat → Prop} {r : Nat} {s : Rl} (t k : Int) (d : ByteArray) (h : rfRep.Is w F r s) (hB : RlB s) (ht : I64' t) (hk : I64' k) (hd : d.size ≤ 100000) (hl : s.ents.length < 5000) : Calls Try.prog 35 #[.pointer (some ⟨r, 0, none⟩), .int .i64 t, .int .i64 k, .string d] w fun e w' => e = .returned (entV (addE s t k d)) ∧ Turn rfRep F w w' r (addL s t k d) := by
  have HL := hid (fun wx (hb : Below w.heap.size w wx) => rfLast_any (rf_later h hb) hB)
  have h1 := hB.last
  have hwr : IntKind.i64.wrap (s.last + 1) = s.last + 1 := by rw [IntKind.wrap_i64]; omega
  have C1 := hid (HL.out (w.alloc (.cells #[.int .i64 0, .int .i64 0, .int .i64 0, .string ⟨#[]⟩] 49)) ((Below.refl _ _).alloc (Nat.le_refl _) _))
  have H := hid h
  clear h hB
  go_enter Try.func35, Try.ntmps35
  go_upto_region 2 with (go_at_call 23; (with_reducible refine C1.out.mono ?_); rintro e w1 ⟨rfl, hb⟩)
  have hz : (w.alloc (.cells #[.int .i64 0, .int .i64 0, .int .i64 0, .string ⟨#[]⟩] 49)).heap.size = w.heap.size + 1 := by simp
  have o8a : own w1 w.heap.size #[.int .i64 0, .int .i64 0, .int .i64 0, .string ⟨#[]⟩] 49 := (own.new w #[.int .i64 0, .int .i64 0, .int .i64 0, .string ⟨#[]⟩] 49).same (hb.block _ (by rw [hz]; omega))
  have hz1 : w.heap.size < w1.heap.size := by have := hb.size; omega
  have hb1 : Below w.heap.size w w1 := ((Below.refl _ _).alloc (Nat.le_refl _) _).trans (hb.mono (by rw [hz]; omega))
  have bW : Below w.heap.size w (w1.alloc (.cells #[.int .i64 (s.last + 1), .int .i64 t, .int .i64 k, .string d] 49)) := hb1.alloc hb1.size _
  have bW1 : Below w1.heap.size w1 (w1.alloc (.cells #[.int .i64 (s.last + 1), .int .i64 t, .int .i64 k, .string d] 49)) := (Below.refl _ _).alloc (Nat.le_refl _) _
  have oe := own.new w1 #[.int .i64 (s.last + 1), .int .i64 t, .int .i64 k, .string d] 49
  have o8 := o8a.same (bW1.block _ o8a.lt)
  clear o8a
  have hWI := rf_later H.out bW
  have HF := hid (rfRep.lt H.out)
  clear bW1 hb hb1 C1 HL
  generalize (w1.alloc (.cells #[.int .i64 (s.last + 1), .int .i64 t, .int .i64 k, .string d] 49)) = W at *
  generalize w1.heap.size = ge at *
  obtain ⟨va, vc, la, lc, hI, hc⟩ := rf_c hWI
  obtain ⟨⟨aA, bA, wA, aA2, bA2, wA2, PA⟩, ⟨aB, bB, wB, aB2, bB2, wB2, PB⟩, ⟨aC, bC, wC, aC2, bC2, wC2, PC⟩⟩ := gput_runs (w := W) enTy_ok hI.ents (by omega) (addE s t k d) #[.int .i64 (s.last + 1), .int .i64 t, .int .i64 k, .string d] rfl
  have hr := hI.box.lt
  have hcs : ∀ wx, Below W.heap.size W wx → wx.cell? ⟨r, 4, none⟩ = some (.slice la s.ents.length lc) ∧ wx.cell? ⟨ge, 0, none⟩ = some (.int .i64 (s.last + 1)) ∧ wx.cell? ⟨ge, 1, none⟩ = some (.int .i64 t) ∧ wx.cell? ⟨ge, 2, none⟩ = some (.int .i64 k) ∧ wx.cell? ⟨ge, 3, none⟩ = some (.string d) := fun wx hb =>
    have o := oe.same (hb.block _ oe.lt)
    ⟨(hc wx hb).c4, (o.cell 0).trans rfl, (o.cell 1).trans rfl, (o.cell 2).trans rfl, (o.cell 3).trans rfl⟩
  have B0 : Below W.heap.size W (W.alloc (.cells #[] 49)) := Below.alloc (Below.refl _ _) (Nat.le_refl _) _
  have B1 : Below W.heap.size W (W.alloc (.cells #[.int .i64 (s.last + 1), .int .i64 t, .int .i64 k, .string d] 49)) := Below.alloc (Below.refl _ _) (Nat.le_refl _) _
  have BC : Below W.heap.size W (wC.alloc (.cells #[.int .i64 (s.last + 1), .int .i64 t, .int .i64 k, .string d] 49)) := PC.b1w.alloc PC.b1w.size _
  obtain ⟨c1, d0, d1, d2, d3⟩ := hcs _ (Below.refl _ W)
  obtain ⟨c2, d4, d5, d6, d7⟩ := hcs _ B0
  obtain ⟨c3, d8, d9, d10, d11⟩ := hcs _ B1
  obtain ⟨c4, d12, d13, d14, d15⟩ := hcs _ PA.b1w
  obtain ⟨c5, d16, d17, d18, d19⟩ := hcs _ PB.b1w
  obtain ⟨c6, d20, d21, d22, d23⟩ := hcs _ PC.b1w
  obtain ⟨c7, d24, d25, d26, d27⟩ := hcs _ BC
  have eA0 := PA.e1
  have fA0 := PA.e2
  have eB0 := PB.e1
  have fB0 := PB.e2
  have eC0 := PC.e1
  have fC0 := PC.e2
  simp only [if_true, if_false, Bool.false_eq_true] at fA0 fB0 fC0
  dsimp only [enTy] at eA0 eB0 eC0 fA0 fB0 fC0
  have eA := hid eA0
  have eB := hid eB0
  have eC := hid eC0
  have fA := hid fA0
  have fB := hid fB0
  have fC := hid fC0
  clear eA0 eB0 eC0 fA0 fB0 fC0
  obtain ⟨x1, x2, x3, x4, x5⟩ := rf_end (x := addE s t k d) hWI bW HF.out o8 oe (Nat.le_refl _) (by omega) (by omega) PA.row
  obtain ⟨y1, y2, y3, y4, y5⟩ := rf_end (x := addE s t k d) hWI bW HF.out o8 oe (Nat.le_refl _) (by omega) (by omega) PB.row
  obtain ⟨z1, z2, z3, z4, z5⟩ := rf_end (x := addE s t k d) hWI bW HF.out o8 oe (Nat.le_refl _) (by omega) (by omega) PC.row
  rw [c1] at x1 y1 z1
  have X : Hid (AddEnd w F r s w.heap.size ge (addE s t k d) (wA2.setCell ⟨r, 4, none⟩ (.slice aA2 (s.ents.length + 1) bA2))) := hid ⟨x3, x4, x5⟩
  have Y : Hid (AddEnd w F r s w.heap.size ge (addE s t k d) (wB2.setCell ⟨r, 4, none⟩ (.slice aB2 (s.ents.length + 1) bB2))) := hid ⟨y3, y4, y5⟩
  have Z : Hid (AddEnd w F r s w.heap.size ge (addE s t k d) (wC2.setCell ⟨r, 4, none⟩ (.slice aC2 (s.ents.length + 1) bC2))) := hid ⟨z3, z4, z5⟩
  clear PA PB PC hcs B0 B1 BC hI hc hWI o8 oe H bW x3 y3 z3 x4 y4 z4 x5 y5 z5
  go_cut [] (fun wx => AddEnd w F r s w.heap.size ge (addE s t k d) wx)
  case first =>
    go_wp2
    go_region_law (first
      | (refine step_append_at eA.out (by with_reducible rfl) rfl _ _ rfl rfl rfl rfl ?_)
      | (refine step_append_at fA.out (by with_reducible rfl) rfl _ _ rfl rfl rfl rfl ?_)
      | (refine step_append_at eB.out (by with_reducible rfl) rfl _ _ rfl rfl rfl rfl ?_)
      | (refine step_append_at fB.out (by with_reducible rfl) rfl _ _ rfl rfl rfl rfl ?_)
      | (refine step_append_at eC.out (by with_reducible rfl) rfl _ _ rfl rfl rfl rfl ?_)
      | (refine step_append_at fC.out (by with_reducible rfl) rfl _ _ rfl rfl rfl rfl ?_))
    all_goals
      go_wp2
      go_meet
      first
        | exact X.out
        | exact Y.out
        | exact Z.out
  case rest =>
    clear X Y Z x1 x2 y1 y2 z1 z2 eA eB eC fA fB fC
    generalize wc = W2 at *
    obtain ⟨⟨n0, n1, n2, n3⟩, ⟨k0, k1, k2, k3, f0, f1, f2, f3, e0, e1, e2, e3⟩, hT⟩ := hcut
    go_wp2
    exact bodyPost_ret (v := .agg #[.int .i64 (addE s t k d).idx, .int .i64 (addE s t k d).term, .int .i64 (addE s t k d).kind, .string (addE s t k d).dt]) (by simp [results, Try.results35, go_sem, e0, e1, e2, e3]) rfl ⟨rfl, hT.out⟩
end Go.Proofs.Ytiffdhihhggkhaa
