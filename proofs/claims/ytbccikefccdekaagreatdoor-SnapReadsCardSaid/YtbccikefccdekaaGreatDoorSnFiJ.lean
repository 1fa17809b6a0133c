import Derived.Test.YtbccikefccdekaaGreatDoorSnDk2J
import Derived.Test.YtbccikefccdekaaGreatDoorDkRenJ
import Derived.Test.YtbccikefccdekaaGreatDoorMq3J
/-
  LAYER 4 (snap), THE PROGRAM: snapshots, drop, dropOthers.
-/
namespace Go.Proofs.YtbccikefccdekaaGreatDoor
open Go.RowKit Go.Maps
set_option linter.unusedVariables false
set_option maxRecDepth 100000

theorem diskIs_ltS {w : World} {S : Nat → Prop} {a : Nat} {s : Dk} (h : DiskIs w S a s) : ∀ b, S b → b < w.heap.size := by obtain ⟨mb, F, h⟩ := h; exact h.lt
theorem diskIs_ok {w : World} {S : Nat → Prop} {a : Nat} {s : Dk} (h : DiskIs w S a s) : s.Ok := by obtain ⟨mb, F, h⟩ := h; exact h.ok
theorem diskIs_widen {w : World} {S T : Nat → Prop} {a : Nat} {s : Dk} (h : DiskIs w S a s) (hT : ∀ b, S b → T b) (hlt : ∀ b, T b → b < w.heap.size) : DiskIs w T a s := by obtain ⟨mb, F, h⟩ := h; exact ⟨mb, F, h.widen hT hlt⟩
theorem diskIs_below {w w' : World} {S : Nat → Prop} {a : Nat} {s : Dk} (h : DiskIs w S a s) (hb : Below w.heap.size w w') : DiskIs w' S a s := h.same hb.size (fun b e => hb.block b (diskIs_ltS h b e))
theorem diskIs_chg {w w' : World} {S T : Nat → Prop} {a : Nat} {s : Dk} (h : DiskIs w S a s) (hc : Chg T w w') (hT : ∀ b, S b → ¬ T b) : DiskIs w' S a s := h.same hc.size (fun b e => hc.block b (diskIs_ltS h b e) (hT b e))
theorem names_inS {s : Dk} (h : s.Ok) : (s.L.map AF.name).length ≤ 40 ∧ ∀ x ∈ s.L.map AF.name, x.length ≤ 24 := by
  refine ⟨by simpa using h.many, fun x hx => ?_⟩
  obtain ⟨f, hf, rfl⟩ := List.mem_map.1 hx
  have h1 := h.names f hf
  unfold isName at h1
  simp at h1
  omega
def SnapsPost (w : World) (s : Dk) (e : Ending) (w' : World) : Prop := ∃ v, e = .returned v ∧ NamesAt w' w.heap.size v (filesL s.L) ∧ Below w.heap.size w w'
set_option maxHeartbeats 2000000 in
theorem snapshots_any {w : World} {S : Nat → Prop} {a : Nat} {s : Dk} {B0 : Nat} (hd : DiskIs w S a s) (hg : Sn.Glob w B0) (hB0 : B0 ≤ w.heap.size) :
    Calls Tryz.prog 39 #[.pointer (some ⟨a, 0, none⟩)] w (SnapsPost w s) := by
  obtain ⟨mb, F, hr⟩ := hd
  have hn := names_inS hr.ok
  have HL := hid (list_any hr)
  have HD := hid (fun v1 w1 (hv : NamesAt w1 w.heap.size v1 (s.L.map AF.name)) (hb : Below w.heap.size w w1) => Sn.deleteFunc_any v1 (s.L.map AF.name) w1 (hg.below hb hB0) hB0 hb.size hv (fun x hx => by have := hn.2 x hx; omega) (by omega))
  have hfin : ∀ v1 v w1 w2, NamesAt w1 w.heap.size v1 (s.L.map AF.name) → Below w.heap.size w w1 → NamesAt w2 w.heap.size v ((s.L.map AF.name).filter Sn.isSeg) → Chg (fun b => v1.ownBlock = some b) w1 w2 → SnapsPost w s (.returned v) w2 := fun v1 v w1 w2 h1 h2 h3 h4 => ⟨v, rfl, h3, h2.trans (h4.below h2.size (fun b hb => (World.ownsRow.lt h1 b hb).1))⟩
  have HF := hid hfin
  clear hr hg hn hfin
  generalize (s.L.map AF.name) = names at *
  go_enter Tryz.func39, Tryz.ntmps39
  go_wp2_with (first
    | (go_at_call 22; (with_reducible refine HL.out.mono ?_); rintro e w1 ⟨v1, rfl, hv1, hb1⟩; have HV1 := hid hv1; obtain ⟨a1, cap1, rfl⟩ := names_slice hv1; clear hv1)
    | (go_at_call 64; (with_reducible refine (HD.out _ _ HV1.out hb1).mono ?_); rintro e w2 ⟨v2, rfl, hv2, hc2, hs2⟩; have HV2 := hid hv2; have HC2 := hid hc2; obtain ⟨a2, cap2, rfl⟩ := names_slice hv2; clear hv2 hc2 hs2))
  go_ret
  exact HF.out _ _ _ _ HV1.out hb1 HV2.out HC2.out
set_option maxHeartbeats 2000000 in
theorem drop_any {w : World} {S : Nat → Prop} {a : Nat} {s : Dk} (h : DiskIs w S a s) (n : ByteArray) (hn : n.size ≤ maxLen) : Calls Tryz.prog 35 #[.pointer (some ⟨a, 0, none⟩), .string n] w (OpPost w S a (dropS s n.data.toList)) := by
  have HD := hid (dele_any h n hn)
  unfold dropS
  clear h
  generalize dele s n.data.toList = r at *
  obtain ⟨s1, k⟩ := r
  by_cases hk : k = 4
  · subst hk
    rw [if_pos rfl]
    go_enter Tryz.func35, Tryz.ntmps35
    go_wp2_with (go_at_call 63; (with_reducible refine HD.out.mono ?_); rintro e w1 hq; have HQ := hid hq; obtain ⟨rfl, -, -⟩ := hq)
    go_ret
    exact ⟨rfl, HQ.out.2⟩
  · rw [if_neg hk]
    have hq4 : (k == 4) = false := beq_eq_false_iff_ne.2 hk
    go_enter Tryz.func35, Tryz.ntmps35
    go_wp2_with (go_at_call 63; (with_reducible refine HD.out.mono ?_); rintro e w1 hq; have HQ := hid hq; obtain ⟨rfl, -, -⟩ := hq)
    go_ret
    exact HQ.out
/-- How far dropOthers has come. -/
def DoRel (w1 : World) (S : Nat → Prop) (a : Nat) (kept : List UInt8) (s : Dk) (L : List (List UInt8)) (u : Value) (wr : World) : Prop := ∃ (k : Nat) (s' : Dk), k ≤ L.length ∧ u = .int .i64 (k : Int) ∧ Hid (OpPost w1 S a (s', 0) (.returned (.int .i64 0)) wr ∧ dropEach kept s L = dropEach kept s' (L.drop k))
theorem opPost_thenS {w w1 w2 : World} {S : Nat → Prop} {a : Nat} {r1 r2 : Dk × Int} {e1 e2 : Ending} (hlt : ∀ b, S b → b < w.heap.size) (h1 : OpPost w S a r1 e1 w1) (h2 : OpPost w1 (grow S w w1) a r2 e2 w2) : OpPost w S a r2 e2 w2 := by
  obtain ⟨-, d1, c1⟩ := h1
  obtain ⟨he, ⟨mb, F, d2⟩, c2⟩ := h2
  exact ⟨he, ⟨mb, F, d2.after (S1 := grow S w w1) (fun b hb => hb) hlt c1.size c2.size⟩, c1.after (fun b hb => hb) c2⟩
set_option maxHeartbeats 8000000 in
theorem dropOthers_any {w : World} {S : Nat → Prop} {a : Nat} {s : Dk} {B0 : Nat} (h : DiskIs w S a s) (hg : Sn.Glob w B0) (hB0 : B0 ≤ w.heap.size) (kept : ByteArray) (hk : kept.size ≤ maxLen) :
    Calls Tryz.prog 62 #[.pointer (some ⟨a, 0, none⟩), .string kept] w (OpPost w S a (dropOthersS s kept.data.toList)) := by
  have hlt0 := diskIs_ltS h
  have hnm := names_inS (diskIs_ok h)
  have hfl : (filesL s.L).length ≤ 40 := Nat.le_trans (List.length_filter_le _ _) hnm.1
  have hfn : ∀ x ∈ filesL s.L, x.length ≤ 24 := fun x hx => hnm.2 x (List.mem_filter.1 hx).1
  have HSn := hid (snapshots_any h hg hB0)
  have HLt := hid hlt0
  have HFn := hid hfn
  unfold dropOthersS
  obtain ⟨L, hL⟩ : ∃ L, filesL s.L = L := ⟨_, rfl⟩
  unfold SnapsPost at HSn
  rw [hL] at hfl HFn HSn ⊢
  have HIn : Hid (∀ w1, Below w.heap.size w w1 → DiskIs w1 S a s) := hid (fun w1 hb => diskIs_below h hb)
  have hgr : ∀ (w1 w2 : World) (r : Dk × Int) (e : Ending), Below w.heap.size w w1 → OpPost w1 S a r e w2 → OpPost w S a r e w2 := fun w1 w2 r e hb hp => by
    obtain ⟨he, ⟨mb, F, hd⟩, hc⟩ := hp
    exact ⟨he, ⟨mb, F, hd.after (S1 := S) (fun b hb => .inl hb) hlt0 hb.size hc.size⟩, (Chg.of_below hb).after (fun b hb => .inl hb) hc⟩
  have HGr := hid hgr
  clear h hg hlt0 hnm hfn hgr hL
  go_enter Tryz.func62, Tryz.ntmps62
  go_wp2_with (go_at_call 39; (with_reducible refine HSn.out.mono ?_); rintro e w1 ⟨v1, rfl, hv1, hb1⟩; have HV1 := hid hv1; obtain ⟨a1, cap1, rfl⟩ := names_slice hv1; clear hv1; have HI1 := hid (HIn.out w1 hb1))
  have HLt1 := hid (diskIs_ltS HI1.out)
  go_loopw [11] (DoRel w1 S a kept.data.toList s L) (fun u _ => L.length - (intOf u).toNat)
  case atStart => exact ⟨0, s, Nat.zero_le _, by go_num, hid ⟨⟨rfl, diskIs_widen HI1.out grow_mono (fun b e => e.elim (fun k => HLt1.out b k) (fun k => by omega)), Chg.refl _ _⟩, by rw [List.drop_zero]⟩⟩
  case round =>
    obtain ⟨k, s', hk2, rfl, hp⟩ := hrel
    have HP := hid hp.out
    clear hp
    by_cases hkl : k < L.length
    · have hkI : (k : Int) < (L.length : Int) := by omega
      obtain ⟨g, cap', hv, hgB, hglt, hnc, hcell⟩ := names_cell HV1.out hkl
      simp only [Value.slice.injEq] at hv
      obtain ⟨rfl, _, rfl⟩ := hv
      have hgS : ¬ S g := fun e => by have := HLt.out g e; omega
      have hc := (World.cell?_of_block (w := w1) (w' := wr) (a := ⟨g, k, none⟩) (HP.out.1.2.2.block g hglt hgS)).trans hcell
      have hdr : L.drop k = L[k] :: L.drop (k + 1) := List.drop_eq_getElem_cons hkl
      have hxl : L[k].length ≤ 24 := HFn.out _ (List.getElem_mem hkl)
      generalize L[k] = x at *
      clear hcell
      by_cases hx : x = kept.data.toList
      · have hq : ((mk x).toList == kept.toList) = true := by rw [Lib.toList_data, Lib.toList_data, mk_data, hx]; simp
        have HE : Hid (DoRel w1 S a kept.data.toList s L (.int .i64 ((k + 1 : Nat) : Int)) wr) := hid ⟨k + 1, s', hkl, rfl, hid ⟨HP.out.1, by rw [HP.out.2, hdr]; conv => lhs; unfold dropEach; rw [if_pos hx]⟩⟩
        clear hx hdr
        generalize mk x = xb at *
        go_wp2
        go_roundw
        case rel => exact HE.out
        case measure => simp [intOf]; omega
      · have hq : ((mk x).toList == kept.toList) = false := by rw [beq_eq_false_iff_ne, Lib.toList_data, Lib.toList_data, mk_data]; exact hx
        have HD := dele_any HP.out.1.2.1 (mk x) (by rw [mk_size]; unfold maxLen; omega)
        rw [mk_data] at HD
        have hst : dropEach kept.data.toList s L = if (dele s' x).2 = 0 then dropEach kept.data.toList (dele s' x).1 (L.drop (k + 1)) else dele s' x := by
          rw [HP.out.2, hdr]
          conv => lhs; unfold dropEach
          rw [if_neg hx]
        have HDe := hid HD
        have HSt := hid hst
        clear HD hst hx hdr
        generalize dele s' x = r at *
        obtain ⟨s2, e2⟩ := r
        by_cases he : e2 = 0
        · subst he
          have HE : Hid (∀ w2, OpPost wr (grow S w1 wr) a (s2, 0) (.returned (.int .i64 0)) w2 → DoRel w1 S a kept.data.toList s L (.int .i64 ((k + 1 : Nat) : Int)) w2) := hid (fun w2 hq => ⟨k + 1, s2, hkl, rfl, hid ⟨opPost_thenS HLt1.out HP.out.1 hq, by rw [HSt.out]; exact if_pos rfl⟩⟩)
          clear HSt
          generalize mk x = xb at *
          go_wp2_with (go_at_call 63; (with_reducible refine HDe.out.mono ?_); rintro e w2 hq2; have HQ := hid hq2; obtain ⟨rfl, -, -⟩ := hq2)
          go_roundw
          case rel => exact HE.out _ HQ.out
          case measure => simp [intOf]; omega
        · have HE : Hid (∀ w2, OpPost wr (grow S w1 wr) a (s2, e2) (.returned (.int .i64 e2)) w2 → OpPost w S a (dropEach kept.data.toList s L) (.returned (.int .i64 e2)) w2) := hid (fun w2 hq => by
            have h3 := HGr.out _ _ _ _ hb1 (opPost_thenS HLt1.out HP.out.1 hq)
            rw [HSt.out, if_neg he]
            exact h3)
          have hqe : (e2 == 0) = false := beq_eq_false_iff_ne.2 he
          clear HSt he
          generalize mk x = xb at *
          go_wp2_with (go_at_call 63; (with_reducible refine HDe.out.mono ?_); rintro e w2 hq2; have HQ := hid hq2; obtain ⟨rfl, -, -⟩ := hq2)
          go_ret
          exact HE.out _ HQ.out
    · obtain rfl : k = L.length := by omega
      have HE : Hid (OpPost w S a (dropEach kept.data.toList s L) (.returned (.int .i64 0)) wr) := hid (by
        have h3 := HGr.out _ _ _ _ hb1 HP.out.1
        rw [HP.out.2, List.drop_length]
        exact h3)
      go_wp2
      go_ret
      exact HE.out
end Go.Proofs.YtbccikefccdekaaGreatDoor

