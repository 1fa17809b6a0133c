import Derived.Test.YtbccikefccdekaaGreatDoorSnRdJ
/-
  LAYER 4 (snap), THE PROGRAM: Load.
-/
namespace Go.Proofs.YtbccikefccdekaaGreatDoor
open Go.RowKit Go.Shelf
attribute [local go_sem] Oper.semAt_some
set_option linter.unusedVariables false
set_option maxRecDepth 100000

def LdPost (w : World) (o : Option Bs) (k : Int) (e : Ending) (w' : World) : Prop := ∃ vv, e = .returned (.tuple #[bval (o.getD bs0) vv, .bool o.isSome, .int .i64 k]) ∧ Below w.heap.size w w' ∧ BAt w' vv (o.getD bs0) ∧ ∀ x, vv.ownBlock = some x → w.heap.size ≤ x
theorem ld_none {w w' : World} {k : Int} (hb : Below w.heap.size w w') : LdPost w none k (.returned (.tuple #[.agg #[.int .i64 0, .int .i64 0, .slice none 0 0, .string ⟨#[]⟩], .bool false, .int .i64 k])) w' := ⟨.slice none 0 0, rfl, hb, bAt_zero w', fun x hx => by cases hx⟩
def deadK (s : Dk) : Int := if s.dead then 7 else 0
def loadD (s : Dk) : Option Bs := if s.dead then none else loadS s
/-- How far Load has come. -/
def LoRel (w1 : World) (L : List (List UInt8)) (s : Dk) (u : Value) (wr : World) : Prop := ∃ (k : Nat), k ≤ L.length ∧ u = .int .i64 (k : Int) ∧ Hid (Below w1.heap.size w1 wr ∧ L.findSome? (readS s) = (L.drop k).findSome? (readS s))
set_option maxHeartbeats 16000000 in
theorem snLoad_any {w : World} {S : Nat → Prop} {a : Nat} {s : Dk} {B0 : Nat} (hd : DiskIs w S a s) (hg : Sn.Glob w B0) (hB0 : B0 ≤ w.heap.size) :
    Calls Tryz.prog 21 #[.pointer (some ⟨a, 0, none⟩)] w (LdPost w (loadD s) (deadK s)) := by
  have hok := diskIs_ok hd
  have hnm := names_inS hok
  have hfl : (filesL s.L).length ≤ 40 := Nat.le_trans (List.length_filter_le _ _) hnm.1
  have hfs : ∀ x ∈ filesL s.L, Sn.isSeg x = true := fun x hx => (List.mem_filter.1 hx).2
  have hsn : ∀ x ∈ Sn.sortSeg (filesL s.L), x.length ≤ 24 := fun x hx => hnm.2 x (List.mem_filter.1 ((List.mergeSort_perm _ _).mem_iff.1 hx)).1
  have hsl : (Sn.sortSeg (filesL s.L)).length = (filesL s.L).length := by simp [Sn.sortSeg]
  obtain ⟨W0, hW0⟩ : ∃ W0, w.alloc (.cells zbox 24) = W0 := ⟨_, rfl⟩
  have hb0 : Below w.heap.size w W0 := by rw [← hW0]; exact (Below.refl _ _).alloc (Nat.le_refl _) _
  have z0 : W0.heap.size = w.heap.size + 1 := by rw [← hW0]; simp
  have o0 : own W0 w.heap.size zbox 24 := by rw [← hW0]; exact own.new w _ _
  dsimp only [zbox] at hW0 o0
  have hd0 := diskIs_below hd hb0
  have hg0 := hg.below hb0 hB0
  have HDd := hid (show Calls Tryz.prog 18 #[.pointer (some ⟨a, 0, none⟩)] W0 (fun e w' => e = .returned (.bool s.dead) ∧ W0 = w') by
    obtain ⟨mb, F, h1⟩ := hd0
    exact dead_any h1)
  have HZ : Hid (∀ w1, Below W0.heap.size W0 w1 → ∀ u0 u1 u2 u3, QBox w1 w.heap.size (.int .i64 0) (.int .i64 0) (.slice none 0 0) (.string ⟨#[]⟩) u0 u1 u2 u3 ∧ Below w.heap.size w (qst4 w1 w.heap.size u0 u1 u2 u3) ∧ Chg (fun x => x = w.heap.size) w1 (qst4 w1 w.heap.size u0 u1 u2 u3)) := hid (fun w1 h1 u0 u1 u2 u3 => by
    have o1 := o0.same (h1.block _ o0.lt)
    exact ⟨qbox_of o1 _ _ _ _, qst4_below (hb0.trans (h1.mono hb0.size)) (Nat.le_refl _) _ _ _ _, qst4_chg _ _ _ _ _ _⟩)
  have HN : Hid (∀ k w', Below w.heap.size w w' → LdPost w none k (.returned (.tuple #[.agg #[.int .i64 0, .int .i64 0, .slice none 0 0, .string ⟨#[]⟩], .bool false, .int .i64 k])) w') := hid (fun k w' hb => ld_none hb)
  unfold loadD deadK
  cases hdd : s.dead with
  | true =>
    rw [hdd] at HDd
    simp only [if_true]
    obtain ⟨⟨m0, m1, m2, m3, f0, f1, f2, f3, e0, e1, e2, e3⟩, hfb, -⟩ := HZ.out W0 (Below.refl _ _) (.int .i64 0) (.int .i64 0) (.slice none 0 0) (.string ⟨#[]⟩)
    clear hd hg hok hnm hfl hfs hsn hsl hd0 hg0 hb0 o0
    go_enter Tryz.func21, Tryz.ntmps21
    go_wp2_with (go_at_call 18; (with_reducible refine HDd.out.mono ?_); rintro e1 w1 ⟨rfl, rfl⟩)
    exact bodyPost_ret (v := .tuple #[.agg #[.int .i64 0, .int .i64 0, .slice none 0 0, .string ⟨#[]⟩], .bool false, .int .i64 7]) (by simp [results, Tryz.results21, go_sem, e0, e1, e2, e3]) rfl (HN.out _ _ hfb)
  | false =>
    rw [hdd] at HDd
    simp only [Bool.false_eq_true, if_false]
    unfold loadS
    have HSn := hid (snapshots_any hd0 hg0 (Nat.le_trans hB0 hb0.size))
    have HSo : Hid (∀ w1 v, Below W0.heap.size W0 w1 → NamesAt w1 W0.heap.size v (filesL s.L) → Calls Tryz.prog 40 #[v, .func (.func 41) #[] #[]] w1 fun e w' => e = .returned (.tuple #[]) ∧ NamesAt w' W0.heap.size v (Sn.sortSeg (filesL s.L)) ∧ Chg (fun b => v.ownBlock = some b) w1 w') := hid (fun w1 v hb hv =>
      Sn.sortFunc_any v _ hfs w1 (hg0.below hb (Nat.le_trans hB0 hb0.size)) (Nat.le_trans hB0 hb0.size) hb.size hv (by omega))
    have HRd : Hid (∀ w1, Below w.heap.size w w1 → ∀ x : List UInt8, x.length ≤ 24 → Calls Tryz.prog 42 #[.pointer (some ⟨a, 0, none⟩), .string (mk x)] w1 (RdPost w1 (readS s x))) := hid (fun w1 hb x hx => by
      have := snRead_any (diskIs_below hd hb) (hg.below hb hB0) (Nat.le_trans hB0 hb.size) (mk x) (by rw [mk_size]; unfold maxLen; omega)
      rw [mk_data] at this
      exact this)
    have HB0 := hid hb0
    have HSl := hid hsn
    have HSL := hid hsl
    have hfl2 : (Sn.sortSeg (filesL s.L)).length ≤ 40 := by omega
    clear hsl hd hg hok hnm hfl hfs hsn hd0 hg0 hb0 o0
    unfold SnapsPost at HSn
    generalize Sn.sortSeg (filesL s.L) = L at *
    generalize filesL s.L = FL at *
    go_enter Tryz.func21, Tryz.ntmps21
    go_wp2_with (first
      | (go_at_call 18; (with_reducible refine HDd.out.mono ?_); rintro e1 w1 ⟨rfl, rfl⟩)
      | (go_at_call 39; (with_reducible refine HSn.out.mono ?_); rintro e w1 ⟨v1, rfl, hv1, hb1⟩; have HV1 := hid hv1; obtain ⟨a1, cap1, rfl⟩ := names_slice hv1; clear hv1)
      | (go_at_call 40; (with_reducible refine (HSo.out _ _ hb1 HV1.out).mono ?_); rintro e w2 ⟨rfl, hv2, hc2⟩; have HV2 := hid hv2; have HC2 := hid hc2; clear hv2 hc2))
    have hb2 : Below W0.heap.size W0 w2 := hb1.trans (HC2.out.below hb1.size (fun x hx => (World.ownsRow.lt HV1.out x hx).1))
    go_loopw [19] (LoRel w2 L s) (fun u _ => L.length - (intOf u).toNat)
    case atStart => exact ⟨0, Nat.zero_le _, by go_num, hid ⟨Below.refl _ _, by rw [List.drop_zero]⟩⟩
    case round =>
      obtain ⟨k, hk2, rfl, hp⟩ := hrel
      have HP := hid hp.out
      clear hp
      have hb3 : Below W0.heap.size W0 wr := hb2.trans (HP.out.1.mono hb2.size)
      by_cases hkl : k < L.length
      · have hkI : (k : Int) < (FL.length : Int) := by have := HSL.out; omega
        obtain ⟨g, cap', hv, hgB, hglt, hnc, hcell⟩ := names_cell HV2.out hkl
        simp only [Value.slice.injEq] at hv
        obtain ⟨rfl, hq0, rfl⟩ := hv
        clear hq0
        have hc := (World.cell?_of_block (w := w2) (w' := wr) (a := ⟨g, k, none⟩) (HP.out.1.block g hglt)).trans hcell
        have hdr : L.drop k = L[k] :: L.drop (k + 1) := List.drop_eq_getElem_cons hkl
        have hR := HRd.out wr (HB0.out.trans (hb3.mono HB0.out.size)) L[k] (HSl.out _ (List.getElem_mem hkl))
        have hst : L.findSome? (readS s) = match readS s L[k] with | some b => some b | none => (L.drop (k + 1)).findSome? (readS s) := by
          rw [HP.out.2, hdr, List.findSome?_cons]
          cases readS s L[k] <;> rfl
        generalize L[k] = x at *
        clear hcell
        cases ho : readS s x with
        | none =>
          rw [ho] at hR hst
          simp only at hst
          unfold RdPost at hR
          dsimp only [bval, Option.getD, Option.isSome] at hR
          have HR := hid hR
          have HE : Hid (∀ w4 cs, Below wr.heap.size wr w4 → LoRel w2 L s (.int .i64 ((k + 1 : Nat) : Int)) (w4.alloc (.cells cs 24))) := hid (fun w4 cs hb => ⟨k + 1, hkl, rfl, hid ⟨HP.out.1.trans ((hb.mono HP.out.1.size).alloc (by have := hb.size; have := HP.out.1.size; omega) _), hst⟩⟩)
          clear hR hst hdr
          generalize mk x = xb at *
          generalize bs0 = U at *
          generalize mk U.data = ub at *
          go_wp2_with (go_at_call 42; (with_reducible refine HR.out.mono ?_); rintro e w4 ⟨vv, rfl, hb4, hba4, hf4⟩; obtain ⟨va, vc, hvv, -⟩ := hba4.vot; subst hvv; clear hba4 hf4)
          go_roundw
          case rel => exact HE.out _ _ hb4
          case measure => simp [intOf]; omega
        | some U =>
          rw [ho] at hR hst
          simp only at hst
          rw [hst]
          unfold RdPost at hR
          dsimp only [bval, Option.getD, Option.isSome] at hR
          have HR := hid hR
          have HE : Hid (∀ w4 va vc u, Below wr.heap.size wr w4 → BAt w4 (.slice va U.vot.length vc) U → (∀ x, (Value.slice va U.vot.length vc).ownBlock = some x → wr.heap.size ≤ x) → Below w.heap.size w u → Chg (fun x => x = w.heap.size) (w4.alloc (.cells #[.int .i64 U.ix, .int .i64 U.tm, .slice va U.vot.length vc, .string (mk U.data)] 24)) u → LdPost w (some U) 0 (.returned (.tuple #[.agg #[.int .i64 U.ix, .int .i64 U.tm, .slice va U.vot.length vc, .string (mk U.data)], .bool true, .int .i64 0])) u) := hid (fun w4 va vc u h4 hba hf hb hcu => by
            have b4 : Below w4.heap.size w4 (w4.alloc (.cells #[.int .i64 U.ix, .int .i64 U.tm, .slice va U.vot.length vc, .string (mk U.data)] 24)) := (Below.refl _ _).alloc (Nat.le_refl _) _
            have hws := hb3.size
            exact ⟨_, rfl, hb, bAt_chg (hba.below b4) hcu (fun x hx e => by
              have := hf x hx
              have e' : x = w.heap.size := e
              omega), fun x hx => by have := hf x hx; omega⟩)
          have HAl : Hid (∀ w4 va vc, Below wr.heap.size wr w4 → Below W0.heap.size W0 (w4.alloc (.cells #[.int .i64 U.ix, .int .i64 U.tm, .slice va U.vot.length vc, .string (mk U.data)] 24))) := hid (fun w4 va vc h4 => by
            have h5 := hb3.trans (h4.mono hb3.size)
            exact h5.alloc h5.size _)
          clear hR hst hdr
          generalize mk x = xb at *
          generalize mk U.data = ub at *
          go_wp2_with (go_at_call 42; (with_reducible refine HR.out.mono ?_); rintro e w4 ⟨vv, rfl, hb4, hba4, hf4⟩; obtain ⟨va, vc, hvv, -⟩ := hba4.vot; subst hvv; have HBA := hid hba4; have HF := hid hf4; clear hba4 hf4; obtain ⟨⟨m0, m1, m2, m3, f0, f1, f2, f3, e0, e1, e2, e3⟩, hfb, hfc⟩ := HZ.out _ (HAl.out w4 va vc hb4) (.int .i64 U.ix) (.int .i64 U.tm) (.slice va U.vot.length vc) (.string ub))
          exact bodyPost_ret (v := .tuple #[.agg #[.int .i64 U.ix, .int .i64 U.tm, .slice va U.vot.length vc, .string ub], .bool true, .int .i64 0]) (by simp [results, Tryz.results21, go_sem, e0, e1, e2, e3]) rfl (HE.out _ _ _ _ hb4 HBA.out HF.out hfb hfc)
      · obtain rfl : k = L.length := by omega
        have hkI : ¬ ((L.length : Nat) : Int) < (FL.length : Int) := by have := HSL.out; omega
        obtain ⟨⟨m0, m1, m2, m3, f0, f1, f2, f3, e0, e1, e2, e3⟩, hfb, -⟩ := HZ.out _ hb3 (.int .i64 0) (.int .i64 0) (.slice none 0 0) (.string ⟨#[]⟩)
        have hst : L.findSome? (readS s) = none := by rw [HP.out.2, List.drop_length]; rfl
        rw [hst]
        go_wp2
        exact bodyPost_ret (v := .tuple #[.agg #[.int .i64 0, .int .i64 0, .slice none 0 0, .string ⟨#[]⟩], .bool false, .int .i64 0]) (by simp [results, Tryz.results21, go_sem, e0, e1, e2, e3]) rfl (HN.out _ _ hfb)
end Go.Proofs.YtbccikefccdekaaGreatDoor

