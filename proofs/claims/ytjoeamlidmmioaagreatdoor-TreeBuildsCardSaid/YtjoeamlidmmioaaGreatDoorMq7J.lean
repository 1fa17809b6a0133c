import Derived.Test.YtjoeamlidmmioaaGreatDoorXmRdJ
import Derived.Test.YtjoeamlidmmioaaGreatDoorTrRuneJ
import Derived.Test.YtjoeamlidmmioaaGreatDoorTrBuildJ
/-
  LAYER 11 (xml), THE PROGRAM: Read at any world since.
-/
namespace Go.Proofs.YtjoeamlidmmioaaGreatDoor
open Go.RowKit
set_option linter.unusedVariables false
set_option maxRecDepth 100000

theorem gb_at {w wx : World} (hG : Gb w.heap.size w) (hb : Below w.heap.size w wx) : Gb wx.heap.size wx := (hG.below hb).more hb.size
/-- Read at any world since. -/
theorem kRead {w : World} (hG : Gb w.heap.size w) (s : ByteArray) (hs : s.size ≤ 1000000) (R : List TkX × Int × Int) (hR : readR s.data.toList = R) (wx : World) (hb : Below w.heap.size w wx) :
    Calls Tryz.prog 14 #[.string s] wx fun e w' => ∃ a c, e = .returned (.tuple #[.slice a R.1.length c, .int .i64 R.2.1, .int .i64 R.2.2]) ∧ TokAt w' (.slice a R.1.length c) R.1 ∧ Below w.heap.size w w' ∧ Below wx.heap.size wx w' :=
  (read_any (gb_at hG hb) s (by omega)).mono fun e w' ⟨a, c, h1, h2, h3⟩ => by
    rw [hR] at h1 h2
    exact ⟨a, c, h1, h2, hb.trans (h3.mono hb.size), h3⟩
theorem readR_of {l : List UInt8} {L : List TkX} (hl : l.length ≤ 20000) {n : Nat} (h : readX l = (some L, n)) : readR l = (L, 0, 0) := by
  unfold readR; rw [if_neg (by omega), h]
end Go.Proofs.YtjoeamlidmmioaaGreatDoor

/-
  LAYER 12 (tree), THE PROGRAM: Squeeze; Parse.
-/
namespace Go.Proofs.YtjoeamlidmmioaaGreatDoor
open Go.RowKit
set_option linter.unusedVariables false
set_option maxRecDepth 100000

theorem sqClo_pays (w : World) : PredGrows Tryz.prog 17 #[] gapR w := fun W x hx hb => by
  have HC := hid (conRune_any x hx W)
  show Calls Tryz.prog 17 #[.int .i32 (x : Nat)] W _
  go_enter Tryz.func17, Tryz.ntmps17
  go_wp2_with (go_at_call 18; (with_reducible refine HC.out.mono ?_); rintro e w2 ⟨rfl, hb⟩)
  go_ret
  exact ⟨rfl, hb⟩
theorem squeeze_any (s : ByteArray) (hs : s.size ≤ 100000000) (w : World) : Calls Tryz.prog 11 #[.string s] w fun e w' => e = .returned (.string (mk (sqX s.data.toList))) ∧ Below w.heap.size w w' := by
  have HF : Hid (Calls Tryz.prog 16 #[.string s, .func (.func 17) #[] #[]] w fun e w' => ∃ A, e = .returned (.slice (some ⟨A, 0, none⟩) (Lib.goFieldsP gapR s).length (Lib.goFieldsP gapR s).length) ∧ w.heap.size ≤ A ∧ w'.ownsRow w.heap.size 9 1 (.slice (some ⟨A, 0, none⟩) (Lib.goFieldsP gapR s).length (Lib.goFieldsP gapR s).length) (Lib.goFieldsP gapR s).length ((Lib.goFieldsP gapR s).map Value.string) ∧ Below w.heap.size w w') := hid (Any.strings_FieldsFunc_grows Tryz.trFF 17 #[] (enters_of Tryz.func17 (by kernel_rfl) rfl) gapR s w (by omega) (sqClo_pays w) (by kernel_rfl) (by kernel_rfl))
  have hl : (Lib.goFieldsP gapR s) = (fldX [] s.data.toList).map mk := by
    rw [← fields_eq, List.map_map]
    exact (List.map_id _).symm.trans (List.map_congr_left (fun x _ => rfl))
  have HJ : Hid (∀ (A : Nat) w1, w1.ownsRow w.heap.size 9 1 (.slice (some ⟨A, 0, none⟩) (Lib.goFieldsP gapR s).length (Lib.goFieldsP gapR s).length) (Lib.goFieldsP gapR s).length ((Lib.goFieldsP gapR s).map Value.string) →
      Calls Tryz.prog 19 #[.slice (some ⟨A, 0, none⟩) (Lib.goFieldsP gapR s).length (Lib.goFieldsP gapR s).length, .string ⟨#[32]⟩] w1 fun e w' => e = .returned (.string (mk (sqX s.data.toList))) ∧ Below w1.heap.size w1 w') := hid (fun A w1 ho => by
    have ho0 : ROwn strTy w1 (.slice (some ⟨A, 0, none⟩) (Lib.goFieldsP gapR s).length (Lib.goFieldsP gapR s).length) (Lib.goFieldsP gapR s) := by
      unfold ROwn
      have e1 : strTy.flat (Lib.goFieldsP gapR s) = (Lib.goFieldsP gapR s).map Value.string := by
        generalize Lib.goFieldsP gapR s = q
        induction q with
        | nil => rfl
        | cons x r ih => rw [flat_cons, ih]; rfl
      rw [e1]
      obtain ⟨q1, q2⟩ := ho
      refine ⟨q1, ?_⟩
      rcases q2 with q2 | ⟨g, cap, cur, hv, hB, r⟩
      · exact .inl q2
      · exact .inr ⟨g, cap, cur, hv, Nat.zero_le _, r⟩
    have hsz : (joinX (fldX [] s.data.toList)).length ≤ 200000000 := by
      rw [fld_join]
      have := sqG_len s.data.toList false false
      rw [← Lib.size_eq] at this
      unfold sqX; omega
    have hfl : (fldX [] s.data.toList).length ≤ 140737488355328 := by
      have : ∀ (l : List UInt8) (cur : List UInt8), (fldX cur l).length ≤ l.length + 1 := by
        intro l
        induction l with
        | nil => intro cur; unfold fldX; split <;> simp
        | cons c r ih =>
          intro cur
          unfold fldX
          split
          · split
            · have := ih []; simp; omega
            · have := ih []; simp; omega
          · have := ih (cur ++ [c]); simp; omega
      have h2 := this s.data.toList []
      rw [← Lib.size_eq] at h2
      omega
    have hRA : RAt strTy w1 (.slice (some ⟨A, 0, none⟩) (Lib.goFieldsP gapR s).length (Lib.goFieldsP gapR s).length) ((fldX [] s.data.toList).map mk) := by rw [← hl]; exact ho0.rAt
    have := trJoin_any hRA ⟨#[32]⟩ (.inr (by show (joinX _).length ≤ _; omega)) hfl
    refine this.mono fun e w' ⟨h1, h2⟩ => ⟨?_, h2⟩
    rw [h1]
    show Ending.returned (.string (mk (joinX (fldX [] s.data.toList)))) = _
    rw [fld_join])
  generalize (Lib.goFieldsP gapR s).length = n at *
  generalize (Lib.goFieldsP gapR s).map Value.string = vs at *
  clear hl
  go_enter Tryz.func11, Tryz.ntmps11
  go_wp2_with (first
    | (go_at_call 16; (with_reducible refine HF.out.mono ?_); rintro e w1 ⟨A, rfl, hA, ho, hb⟩; (have HJ2 := hid (HJ.out A w1 ho)); clear ho)
    | (go_at_call 19; (with_reducible refine HJ2.out.mono ?_); rintro e w2 ⟨rfl, hb2⟩))
  go_ret
  exact ⟨rfl, hb.trans (hb2.mono hb.size)⟩
end Go.Proofs.YtjoeamlidmmioaaGreatDoor
/-
  LAYER 12 (tree), THE PROGRAM: Parse.
-/
namespace Go.Proofs.YtjoeamlidmmioaaGreatDoor
open Go.RowKit
set_option linter.unusedVariables false
set_option maxRecDepth 100000

/-- What Parse answers. -/
def parseX (R : List TkX × Int × Int) : Tr × Int := if R.2.1 = 0 then buildX R.1 else (tr0, R.2.1)
def ParsePost (w : World) (T : Tr × Int) (e : Ending) (w' : World) : Prop := ∃ x : NdV, e = .returned (.tuple #[.agg #[.string (mk x.n), .slice x.a x.am x.ac, .string (mk x.t), .slice x.k x.km x.kc], .int .i64 T.2]) ∧ NdIn atTy ndTy w' (fun g => w.heap.size ≤ g) x T.1 ∧ Below w.heap.size w w'
set_option maxHeartbeats 4000000 in
theorem parse_any {w : World} (hG : Gb w.heap.size w) (s : ByteArray) (hs : s.size ≤ 1000000) (R : List TkX × Int × Int) (hR : readR s.data.toList = R) (hok : R.2.1 = 0 → okF bdX0 R.1) (hL : R.1.length ≤ 1000000) :
    Calls Tryz.prog 8 #[.string s] w (ParsePost w (parseX R)) := by
  have hb1 : Below w.heap.size w (w.alloc (.cells #[.string ⟨#[]⟩, .slice none 0 0, .string ⟨#[]⟩, .slice none 0 0] 30)) := (Below.refl _ _).alloc (Nat.le_refl _) _
  have ho1 : own (w.alloc (.cells #[.string ⟨#[]⟩, .slice none 0 0, .string ⟨#[]⟩, .slice none 0 0] 30)) w.heap.size #[.string ⟨#[]⟩, .slice none 0 0, .string ⟨#[]⟩, .slice none 0 0] 30 := own.new w _ _
  have hz1 : (w.alloc (.cells #[.string ⟨#[]⟩, .slice none 0 0, .string ⟨#[]⟩, .slice none 0 0] 30)).heap.size = w.heap.size + 1 := by simp
  have HR := hid (kRead hG s hs R hR _ hb1)
  obtain ⟨W1, hW1⟩ : ∃ W1, w.alloc (.cells #[.string ⟨#[]⟩, .slice none 0 0, .string ⟨#[]⟩, .slice none 0 0] 30) = W1 := ⟨_, rfl⟩
  rw [hW1] at hb1 ho1 hz1
  have HE : Hid (∀ wr x t, Below W1.heap.size W1 wr → NdIn atTy ndTy wr (fun g => W1.heap.size ≤ g) x t → ∀ e, (t, e) = parseX R → own ((((wr.setCell ⟨w.heap.size, 0, none⟩ (.string (mk x.n))).setCell ⟨w.heap.size, 1, none⟩ (.slice x.a x.am x.ac)).setCell ⟨w.heap.size, 2, none⟩ (.string (mk x.t))).setCell ⟨w.heap.size, 3, none⟩ (.slice x.k x.km x.kc)) w.heap.size (ndCs x).toArray 30 ∧
      ParsePost w (parseX R) (.returned (.tuple #[.agg #[.string (mk x.n), .slice x.a x.am x.ac, .string (mk x.t), .slice x.k x.km x.kc], .int .i64 e])) ((((wr.setCell ⟨w.heap.size, 0, none⟩ (.string (mk x.n))).setCell ⟨w.heap.size, 1, none⟩ (.slice x.a x.am x.ac)).setCell ⟨w.heap.size, 2, none⟩ (.string (mk x.t))).setCell ⟨w.heap.size, 3, none⟩ (.slice x.k x.km x.kc))) := hid (fun wr x t hb hN e he => by
    refine ⟨by have := ((((ho1.same (hb.block _ ho1.lt)).set 0 (.string (mk x.n))).set 1 (.slice x.a x.am x.ac)).set 2 (.string (mk x.t))).set 3 (.slice x.k x.km x.kc); simpa [ndCs] using this, x, by rw [← he], ?_, ((((hb1.trans (hb.mono hb1.size)).setCell (Nat.le_refl _) _).setCell (Nat.le_refl _) _).setCell (Nat.le_refl _) _).setCell (Nat.le_refl _) _⟩
    rw [← he]
    refine ndIn_same hN (fun g hg _ => ?_) (fun g hg => by omega) (by simp only [setCell_size]; exact Nat.le_refl _)
    have hne : g ≠ w.heap.size := by omega
    rw [Below.heap_setCell _ _ _ _ hne, Below.heap_setCell _ _ _ _ hne, Below.heap_setCell _ _ _ _ hne, Below.heap_setCell _ _ _ _ hne])
  have HO : Hid (∀ wr, Below W1.heap.size W1 wr → own wr w.heap.size #[.string ⟨#[]⟩, .slice none 0 0, .string ⟨#[]⟩, .slice none 0 0] 30) := hid (fun wr hb => ho1.same (hb.block _ ho1.lt))
  have HW := hid hW1
  have HK := hid hok
  clear hG hR hb1 ho1 hz1 hW1 hok
  obtain ⟨L, er, n⟩ := R
  simp only at HR HK hL
  by_cases he : er = 0
  · subst he
    have HP : Hid (parseX (L, 0, n) = buildX L) := hid (if_pos rfl)
    have HKK := hid (HK.out rfl)
    have HB : Hid (∀ w2 a c, Below W1.heap.size W1 w2 → TokAt w2 (.slice a L.length c) L → Calls Tryz.prog 6 #[.slice a L.length c] w2 (BuildPost w2 L)) := hid (fun w2 a c hb hT => build_any hT HKK.out hL)
    clear HK HKK
    go_enter Tryz.func8, Tryz.ntmps8
    go_wp2_with (first
      | (go_at_call 14; (with_reducible refine HR.out.mono ?_); rintro e w2 ⟨a, c, rfl, h2, h3, h4⟩; (rw [HW.out] at h4); (have HB2 := hid (HB.out w2 a c h4 h2)); clear h2)
      | (go_at_call 6; (with_reducible refine HB2.out.mono ?_); rintro e w3 ⟨x, rfl, hN, hb3⟩; (have hb4 := h4.trans (hb3.mono h4.size)); (have ow := HO.out w3 hb4); (have z0 := ow.cell 0); (have z1 := ow.cell 1); (have z2 := ow.cell 2); (have z3 := ow.cell 3); (have y0 := ow.frozen 0); (have y1 := ow.frozen 1); (have y2 := ow.frozen 2); (have y3 := ow.frozen 3); (simp at z0 z1 z2 z3); (unfold ndV)))
    obtain ⟨q1, q2⟩ := HE.out w3 x _ hb4 (ndIn_same hN (fun _ _ _ => rfl) (fun g hg => by have := h4.size; omega) (Nat.le_refl _)) _ (by rw [HP.out])
    have c0 := q1.cell 0
    have c1 := q1.cell 1
    have c2 := q1.cell 2
    have c3 := q1.cell 3
    simp [ndCs] at c0 c1 c2 c3
    (try simp only [Exit.inBlock, Exit.then])
    refine bodyPost_ret (v := .tuple #[.agg #[.string (mk x.n), .slice x.a x.am x.ac, .string (mk x.t), .slice x.k x.km x.kc], .int .i64 (buildX L).2]) ?_ rfl q2
    rw [results_cell_tmp rfl]
    go_simp
  · have he2 : ((er : Int) == 0) = false := beq_eq_false_iff_ne.2 he
    have HP : Hid ((tr0, er) = parseX (L, er, n)) := hid (if_neg he).symm
    clear HK
    go_enter Tryz.func8, Tryz.ntmps8
    go_wp2_with (go_at_call 14; (with_reducible refine HR.out.mono ?_); rintro e w3 ⟨a, c, rfl, h2, h3, h4⟩; (rw [HW.out] at h4); (have ow := HO.out w3 h4); (have z0 := ow.cell 0); (have z1 := ow.cell 1); (have z2 := ow.cell 2); (have z3 := ow.cell 3); (have y0 := ow.frozen 0); (have y1 := ow.frozen 1); (have y2 := ow.frozen 2); (have y3 := ow.frozen 3); (simp at z0 z1 z2 z3))
    obtain ⟨q1, q2⟩ := HE.out w3 nd0 tr0 h4 (ndIn_zero _ _) _ HP.out
    have c0 := q1.cell 0
    have c1 := q1.cell 1
    have c2 := q1.cell 2
    have c3 := q1.cell 3
    simp [ndCs] at c0 c1 c2 c3
    (try simp only [Exit.inBlock, Exit.then])
    refine bodyPost_ret (v := .tuple #[.agg #[.string (mk nd0.n), .slice nd0.a nd0.am nd0.ac, .string (mk nd0.t), .slice nd0.k nd0.km nd0.kc], .int .i64 er]) ?_ rfl q2
    rw [results_cell_tmp rfl]
    go_simp
    exact ⟨rfl, ⟨rfl, rfl, rfl⟩, rfl, rfl, rfl, rfl⟩
end Go.Proofs.YtjoeamlidmmioaaGreatDoor

