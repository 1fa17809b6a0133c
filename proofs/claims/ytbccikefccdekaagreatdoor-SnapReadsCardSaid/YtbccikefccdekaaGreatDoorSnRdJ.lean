import Derived.Test.YtbccikefccdekaaGreatDoorSnFiJ
import Derived.Test.YtbccikefccdekaaGreatDoorSnUp2J
/-
  LAYER 4 (snap), THE PROGRAM: read.
-/
namespace Go.Proofs.YtbccikefccdekaaGreatDoor
open Go.RowKit Go.Shelf
attribute [local go_sem] Oper.semAt_some
set_option linter.unusedVariables false
set_option maxRecDepth 100000

theorem rd_lenS {s : Dk} (h : s.Ok) (n : List UInt8) : (rd s n).1.length ≤ 10000000 := by
  have h1 := h.room
  have h2 := h.most
  unfold rd
  split
  · simp
  · split
    · simp
    · rename_i f hf
      have := sz_mem (fndK_some hf).1
      show f.data.length ≤ _
      omega
/-- A base, or none. -/
def RdPost (w : World) (o : Option Bs) (e : Ending) (w' : World) : Prop := ∃ vv, e = .returned (.tuple #[bval (o.getD bs0) vv, .bool o.isSome]) ∧ Below w.heap.size w w' ∧ BAt w' vv (o.getD bs0) ∧ ∀ x, vv.ownBlock = some x → w.heap.size ≤ x
theorem rd_none {w w' : World} (hb : Below w.heap.size w w') : RdPost w none (.returned (.tuple #[.agg #[.int .i64 0, .int .i64 0, .slice none 0 0, .string ⟨#[]⟩], .bool false])) w' := ⟨.slice none 0 0, rfl, hb, bAt_zero w', fun x hx => by cases hx⟩
set_option maxHeartbeats 16000000 in
theorem snRead_any {w : World} {S : Nat → Prop} {a : Nat} {s : Dk} {B0 : Nat} (hd : DiskIs w S a s) (hg : Sn.Glob w B0) (hB0 : B0 ≤ w.heap.size) (n : ByteArray) (hn : n.size ≤ maxLen) :
    Calls Tryz.prog 42 #[.pointer (some ⟨a, 0, none⟩), .string n] w (RdPost w (readS s n.data.toList)) := by
  have hok := diskIs_ok hd
  have hlen := rd_lenS hok n.data.toList
  obtain ⟨W0, hW0⟩ : ∃ W0, w.alloc (.cells zbox 24) = W0 := ⟨_, rfl⟩
  have hb0 : Below w.heap.size w W0 := by rw [← hW0]; exact (Below.refl _ _).alloc (Nat.le_refl _) _
  have z0 : W0.heap.size = w.heap.size + 1 := by rw [← hW0]; simp
  have o0 : own W0 w.heap.size zbox 24 := by rw [← hW0]; exact own.new w _ _
  dsimp only [zbox] at hW0 o0
  have HR := hid (show Calls Tryz.prog 70 #[.pointer (some ⟨a, 0, none⟩), .string n] W0 (fun e w' => e = .returned (ReadV (rd s n.data.toList)) ∧ W0 = w') by
    obtain ⟨mb, F, h1⟩ := diskIs_below hd hb0
    exact read_any h1 n hn)
  unfold ReadV at HR
  have hg0 := hg.below hb0 hB0
  have HU := snUnpack_any (mk (rd s n.data.toList).1) W0 (by rw [mk_size]; omega) hg0.steps (by have := hg.hsteps; omega)
  rw [mk_data] at HU
  have HZ : Hid (∀ w1, Below W0.heap.size W0 w1 → ∀ u0 u1 u2 u3, QBox w1 w.heap.size (.int .i64 0) (.int .i64 0) (.slice none 0 0) (.string ⟨#[]⟩) u0 u1 u2 u3 ∧ Below w.heap.size w (qst4 w1 w.heap.size u0 u1 u2 u3) ∧ Chg (fun x => x = w.heap.size) w1 (qst4 w1 w.heap.size u0 u1 u2 u3)) := hid (fun w1 h1 u0 u1 u2 u3 => by
    have o1 := o0.same (h1.block _ o0.lt)
    exact ⟨qbox_of o1 _ _ _ _, qst4_below (hb0.trans (h1.mono hb0.size)) (Nat.le_refl _) _ _ _ _, qst4_chg _ _ _ _ _ _⟩)
  unfold UpPost at HU
  unfold readS
  obtain ⟨r, hr⟩ : ∃ r, unpackS (rd s n.data.toList).1 = r := ⟨_, rfl⟩
  rw [hr] at HU ⊢
  obtain ⟨U, er⟩ := r
  dsimp only [bval] at HU
  have HU := hid HU
  have HNm : Hid (∀ W', Below W0.heap.size W0 W' → I64s U.ix → Calls Tryz.prog 60 #[.int .i64 U.ix] W' fun e w' => e = .returned (.string (mk (Sn.segN U.ix))) ∧ Below W'.heap.size W' w') := hid (fun W' hb hi => Sn.segName_any U.ix W' (hg.below (hb0.trans (hb.mono hb0.size)) hB0) hi)
  have HAl : Hid (∀ w2 vv, Below W0.heap.size W0 w2 → Below W0.heap.size W0 (w2.alloc (.cells #[.int .i64 U.ix, .int .i64 U.tm, vv, .string (mk U.data)] 24))) := hid (fun w2 vv h => h.alloc h.size _)
  simp only
  by_cases her : er ≠ 0
  · rw [if_neg (fun e => her e.1)]
    have hq : ((er : Int) == 0) = false := beq_eq_false_iff_ne.2 (by omega)
    have hq1 : ((er : Int) != 0) = true := bne_iff_ne.2 (by omega)
    have HE : Hid (∀ w', Below w.heap.size w w' → RdPost w none (.returned (.tuple #[.agg #[.int .i64 0, .int .i64 0, .slice none 0 0, .string ⟨#[]⟩], .bool false])) w') := hid (fun w' hb => rd_none hb)
    clear hd hg hok hlen o0 hb0 hg0 hr her HNm
    generalize mk (rd s n.data.toList).1 = db at *
    generalize (rd s n.data.toList).2 = dk at *
    generalize mk U.data = ub at *
    go_enter Tryz.func42, Tryz.ntmps42
    go_wp2_with (first
      | (go_at_call 70; (with_reducible refine HR.out.mono ?_); rintro e1 w1 ⟨rfl, rfl⟩)
      | (go_at_call 12; (with_reducible refine HU.out.mono ?_); rintro e2 w2 ⟨vv, rfl, hb2, hba2, hf2⟩; obtain ⟨va, vc, hvv, -⟩ := hba2.vot; subst hvv; obtain ⟨⟨m0, m1, m2, m3, f0, f1, f2, f3, e0, e1, e2, e3⟩, hfb, -⟩ := HZ.out _ (HAl.out w2 (.slice va U.vot.length vc) hb2) (.int .i64 0) (.int .i64 0) (.slice none 0 0) (.string ⟨#[]⟩)))
    exact bodyPost_ret (v := .tuple #[.agg #[.int .i64 0, .int .i64 0, .slice none 0 0, .string ⟨#[]⟩], .bool false]) (by simp [results, Tryz.results42, go_sem, e0, e1, e2, e3]) rfl (HE.out _ hfb)
  · obtain rfl : er = 0 := by omega
    rw [show ((0 : Nat) : Int) = 0 from rfl] at HU
    have HBx : Hid (∀ w2 vv w3, Below W0.heap.size W0 w2 → Below (w2.alloc (.cells #[.int .i64 U.ix, .int .i64 U.tm, vv, .string (mk U.data)] 24)).heap.size (w2.alloc (.cells #[.int .i64 U.ix, .int .i64 U.tm, vv, .string (mk U.data)] 24)) w3 → Below W0.heap.size W0 w3 ∧ w3.cell? ⟨w2.heap.size, 0, none⟩ = some (.int .i64 U.ix) ∧ w3.cell? ⟨w2.heap.size, 1, none⟩ = some (.int .i64 U.tm) ∧ w3.cell? ⟨w2.heap.size, 2, none⟩ = some vv ∧ w3.cell? ⟨w2.heap.size, 3, none⟩ = some (.string (mk U.data))) := hid (fun w2 vv w3 h2 h3 => by
      have h4 := HAl.out w2 vv h2
      have og := own.new w2 #[.int .i64 U.ix, .int .i64 U.tm, vv, .string (mk U.data)] 24
      have o3 := og.same (h3.block _ og.lt)
      exact ⟨h4.trans (h3.mono h4.size), (o3.cell 0).trans rfl, (o3.cell 1).trans rfl, (o3.cell 2).trans rfl, (o3.cell 3).trans rfl⟩)
    by_cases hnm : Sn.segN U.ix = n.data.toList
    · rw [if_pos ⟨rfl, hnm⟩]
      have hq : ((mk (Sn.segN U.ix)).toList == n.toList) = true := by rw [Lib.toList_data, Lib.toList_data, mk_data, hnm]; simp
      have HE : Hid (∀ w2 vv w3 u, BAt w2 vv U → (∀ x, vv.ownBlock = some x → W0.heap.size ≤ x) → Below W0.heap.size W0 w2 → Below (w2.alloc (.cells #[.int .i64 U.ix, .int .i64 U.tm, vv, .string (mk U.data)] 24)).heap.size (w2.alloc (.cells #[.int .i64 U.ix, .int .i64 U.tm, vv, .string (mk U.data)] 24)) w3 → Below w.heap.size w u → Chg (fun x => x = w.heap.size) w3 u → RdPost w (some U) (.returned (.tuple #[.agg #[.int .i64 U.ix, .int .i64 U.tm, vv, .string (mk U.data)], .bool true])) u) := hid (fun w2 vv w3 u h1 h2 h3 h4 h5 h6 => by
        have b2 : Below w2.heap.size w2 (w2.alloc (.cells #[.int .i64 U.ix, .int .i64 U.tm, vv, .string (mk U.data)] 24)) := (Below.refl _ _).alloc (Nat.le_refl _) _
        refine ⟨vv, rfl, h5, bAt_chg (h1.below (b2.trans (h4.mono b2.size))) h6 (fun x hx e => ?_), fun x hx => by have := h2 x hx; omega⟩
        have := h2 x hx
        have e' : x = w.heap.size := e
        omega)
      clear hd hg hok hlen o0 hb0 hg0 hr her hnm
      generalize mk (rd s n.data.toList).1 = db at *
      generalize (rd s n.data.toList).2 = dk at *
      generalize mk U.data = ub at *
      generalize mk (Sn.segN U.ix) = nb at *
      go_enter Tryz.func42, Tryz.ntmps42
      go_wp2_with (first
        | (go_at_call 70; (with_reducible refine HR.out.mono ?_); rintro e1 w1 ⟨rfl, rfl⟩)
        | (go_at_call 12; (with_reducible refine HU.out.mono ?_); rintro e2 w2 ⟨vv, rfl, hb2, hba2, hf2⟩; obtain ⟨va, vc, hvv, -⟩ := hba2.vot; subst hvv; have HBA := hid hba2; have HF2 := hid hf2; clear hba2 hf2)
        | (go_at_call 60; (with_reducible refine (HNm.out _ (HAl.out w2 (.slice va U.vot.length vc) hb2) HBA.out.ix).mono ?_); rintro e3 w3 ⟨rfl, hb3⟩; obtain ⟨hb03, x0, x1, x2, x3⟩ := HBx.out _ _ _ hb2 hb3; obtain ⟨⟨m0, m1, m2, m3, f0, f1, f2, f3, e0, e1, e2, e3⟩, hfb, hfc⟩ := HZ.out _ hb03 (.int .i64 U.ix) (.int .i64 U.tm) (.slice va U.vot.length vc) (.string ub)))
      exact bodyPost_ret (v := .tuple #[.agg #[.int .i64 U.ix, .int .i64 U.tm, .slice va U.vot.length vc, .string ub], .bool true]) (by simp [results, Tryz.results42, go_sem, e0, e1, e2, e3]) rfl (HE.out _ _ _ _ HBA.out HF2.out hb2 hb3 hfb hfc)
    · rw [if_neg (fun e => hnm e.2)]
      have hq : ((mk (Sn.segN U.ix)).toList == n.toList) = false := by rw [beq_eq_false_iff_ne, Lib.toList_data, Lib.toList_data, mk_data]; exact hnm
      have HE : Hid (∀ w', Below w.heap.size w w' → RdPost w none (.returned (.tuple #[.agg #[.int .i64 0, .int .i64 0, .slice none 0 0, .string ⟨#[]⟩], .bool false])) w') := hid (fun w' hb => rd_none hb)
      clear hd hg hok hlen o0 hb0 hg0 hr her hnm
      generalize mk (rd s n.data.toList).1 = db at *
      generalize (rd s n.data.toList).2 = dk at *
      generalize mk U.data = ub at *
      generalize mk (Sn.segN U.ix) = nb at *
      go_enter Tryz.func42, Tryz.ntmps42
      go_wp2_with (first
        | (go_at_call 70; (with_reducible refine HR.out.mono ?_); rintro e1 w1 ⟨rfl, rfl⟩)
        | (go_at_call 12; (with_reducible refine HU.out.mono ?_); rintro e2 w2 ⟨vv, rfl, hb2, hba2, hf2⟩; obtain ⟨va, vc, hvv, -⟩ := hba2.vot; subst hvv; have HBA := hid hba2; have HF2 := hid hf2; clear hba2 hf2)
        | (go_at_call 60; (with_reducible refine (HNm.out _ (HAl.out w2 (.slice va U.vot.length vc) hb2) HBA.out.ix).mono ?_); rintro e3 w3 ⟨rfl, hb3⟩; obtain ⟨hb03, x0, x1, x2, x3⟩ := HBx.out _ _ _ hb2 hb3; obtain ⟨⟨m0, m1, m2, m3, f0, f1, f2, f3, e0, e1, e2, e3⟩, hfb, hfc⟩ := HZ.out _ hb03 (.int .i64 0) (.int .i64 0) (.slice none 0 0) (.string ⟨#[]⟩)))
      exact bodyPost_ret (v := .tuple #[.agg #[.int .i64 0, .int .i64 0, .slice none 0 0, .string ⟨#[]⟩], .bool false]) (by simp [results, Tryz.results42, go_sem, e0, e1, e2, e3]) rfl (HE.out _ hfb)
end Go.Proofs.YtbccikefccdekaaGreatDoor

