import Derived.Test.YtbccikefccdekaaGreatDoorMq3J
/-
  LAYER 2 (disk): Rename.
-/
namespace Go.Proofs.YtbccikefccdekaaGreatDoor
open Go.RowKit Go.Maps
set_option linter.unusedVariables false
set_option maxRecDepth 100000

section
variable {w w' : World} {S : Nat → Prop} {a mb : Nat} {F : List Fl} {s : Dk}

set_option maxHeartbeats 1000000 in
theorem ren_fail (h : DiskRep w S a mb F s) (n : ByteArray) (hn : n.size ≤ maxLen) (hx : s.dead = true ∨ fndK Fl.key n.data.toList F = none) (t : ByteArray) :
    Calls Tryz.prog 61 #[.pointer (some ⟨a, 0, none⟩), .string n, .string t] w (OpPost w S a (ren s n.data.toList t.data.toList)) := by
  obtain ⟨k, hk, hv, hneed⟩ := need_fail h n hx
  have hr : ren s n.data.toList t.data.toList = (s, k) := hneed _
  rw [hr]
  have HF := hid (show OpPost w S a (s, k) (.returned (.int .i64 k)) w from OpPost.none h (Below.refl _ _) rfl rfl)
  have HI := hid (find_is w h n hn _ hv)
  clear hr hneed hv h hx
  rcases hk with rfl | rfl
  all_goals
    go_enter Tryz.func61, Tryz.ntmps61
    go_wp2_with (go_at_call 88; (with_reducible refine HI.out.mono ?_); rintro e w1 ⟨rfl, rfl⟩)
    go_ret
    exact HF.out

set_option maxHeartbeats 1000000 in
theorem ren_name (h : DiskRep w S a mb F s) (n : ByteArray) (hn : n.size ≤ maxLen) (hd : s.dead = false) {x : Fl} (hx : fndK Fl.key n.data.toList F = some x) (t : ByteArray) (ht : t.size ≤ maxLen) (hnm : isName t.data.toList = false) :
    Calls Tryz.prog 61 #[.pointer (some ⟨a, 0, none⟩), .string n, .string t] w (OpPost w S a (s, 3)) := by
  have HI := hid (find_is w h n hn _ (need_ok h hd hx).1)
  have HF := hid (show OpPost w S a (s, 3) (.returned (.int .i64 3)) w from OpPost.none h (Below.refl _ _) rfl rfl)
  have HN := hid (name_is t ht false hnm)
  clear h hd hx hnm
  go_enter Tryz.func61, Tryz.ntmps61
  go_wp2_with (first
    | (go_at_call 88; (with_reducible refine HI.out.mono ?_); rintro e w1 ⟨rfl, rfl⟩)
    | (go_at_call 84; (with_reducible refine (HN.out _).mono ?_); rintro e w1 ⟨rfl, rfl⟩))
  go_ret
  exact HF.out

set_option maxHeartbeats 1000000 in
theorem ren_dead (h : DiskRep w S a mb F s) (n : ByteArray) (hn : n.size ≤ maxLen) (hd : s.dead = false) {x : Fl} (hx : fndK Fl.key n.data.toList F = some x) (hfu : s.fuse = 0) (t : ByteArray) (ht : t.size ≤ maxLen) (hnm : isName t.data.toList = true) :
    Calls Tryz.prog 61 #[.pointer (some ⟨a, 0, none⟩), .string n, .string t] w (OpPost w S a ({ s with dead := true }, 7)) := by
  have HI := hid (find_is w h n hn _ (need_ok h hd hx).1)
  have HS := hid (spend_dead h hfu)
  have HN := hid (name_is t ht true hnm)
  clear h hd hx hfu hnm
  generalize ({ s with dead := true } : Dk) = sd at *
  go_enter Tryz.func61, Tryz.ntmps61
  go_wp2_with (first
    | (go_at_call 88; (with_reducible refine HI.out.mono ?_); rintro e w1 ⟨rfl, rfl⟩)
    | (go_at_call 84; (with_reducible refine (HN.out _).mono ?_); rintro e w1 ⟨rfl, rfl⟩)
    | (go_at_call 86; (with_reducible refine HS.out.mono ?_); rintro e w2 ⟨rfl, hP⟩; have HP := hid hP; clear hP))
  go_ret
  exact HP.out

/-- Behind the delete: the new name. -/
def PutTail (w : World) (S : Nat → Prop) (a mb : Nat) (r : Dk × Int) (t : ByteArray) (x : Fl) (w3 : World) : Prop :=
  w3.cell? ⟨a, 1, none⟩ = some (.map (some mb)) ∧ a < w3.heap.size ∧ Hid (∀ w4, Below w3.heap.size w3 w4 → ∃ w5, (Instr.mapUpdate 69 (.map (some mb)) (.string t) (.pointer (some ⟨x.g, 0, none⟩))).run Tryz.prog w4 = .ok () w5 ∧ OpPost w S a r (.returned (.int .i64 0)) w5)
def RenTail (w : World) (S : Nat → Prop) (a mb : Nat) (F : List Fl) (r : Dk × Int) (n t : ByteArray) (x : Fl) (e : Ending) (w2 : World) : Prop :=
  e = .returned (.int .i64 0) ∧ w2.cell? ⟨a, 1, none⟩ = some (.map (some mb)) ∧ w2.ownsMap Tryz.prog 9 ptrElem mb F.length (.map (entOf F)) ∧
    Hid (∀ w3, w3.ownsMap Tryz.prog 9 ptrElem mb F.length (DataW.del (.map (entOf F)) (.string n.data.toList)) → w2.mapTurned w3 mb → PutTail w S a mb r t x w3)
set_option maxHeartbeats 1000000 in
theorem ren_ok (h : DiskRep w S a mb F s) (n : ByteArray) (hn : n.size ≤ maxLen) (hd : s.dead = false) {x : Fl} (hx : fndK Fl.key n.data.toList F = some x) (hfu : s.fuse ≠ 0) (t : ByteArray) (ht : t.size ≤ maxLen) (hnm : isName t.data.toList = true) :
    Calls Tryz.prog 61 #[.pointer (some ⟨a, 0, none⟩), .string n, .string t] w (OpPost w S a ({ ticked s with L := insK AF.key { x.abs with name := t.data.toList } (delK AF.key t.data.toList (delK AF.key n.data.toList s.L)) }, 0)) := by
  have HI := hid (find_is w h n hn _ (need_ok h hd hx).1)
  have HN := hid (name_is t ht true hnm)
  have ht24 : t.size ≤ 140737488355328 := by
    unfold isName at hnm
    simp at hnm
    rw [← str_len]; simp; omega
  have hsp : Calls Tryz.prog 86 #[.pointer (some ⟨a, 0, none⟩)] w (RenTail w S a mb F ({ ticked s with L := insK AF.key { x.abs with name := t.data.toList } (delK AF.key t.data.toList (delK AF.key n.data.toList s.L)) }, 0) n t x) := by
    refine (spend_hid w h 0 (if_neg hfu) _ (if_neg hfu)).mono ?_
    rintro e w2 ⟨rfl, hD, hc, hz⟩
    have hc' : Chg S w w2 := hc.mono (fun b e => by rw [e]; exact h.inA)
    obtain ⟨left, hw, _⟩ := hD.head
    refine ⟨rfl, by rw [hw.cell 1]; rfl, hD.map, hid (fun w3 hm hturn => ?_)⟩
    have hcm := mapTurned_chg hturn
    have hD3 := hD.del n.data.toList hm hcm
    have hc3 : Chg S w2 w3 := hcm.mono (fun b e => by rw [e]; exact hD.inM)
    obtain ⟨left3, hw3, _⟩ := hD3.head
    refine ⟨by rw [hw3.cell 1]; rfl, hw3.lt, hid (fun w4 hb4 => ?_)⟩
    have hD4 := hD3.below hb4
    obtain ⟨w5, hrun, hown5, hturn5⟩ := hD4.map.store keyedStr Tryz.underlying69 (by have := h.len; have := h.ok.many; have : (delK Fl.key n.data.toList F).length ≤ F.length := List.length_filter_le _ _; unfold maxLen; omega) (keyStr t ht) (ptrElem_ptr x.g)
    have hcm5 := mapTurned_chg hturn5
    have hxm := (fndK_some hx).1
    have hfx : FileOk w4 { x with name := t.data.toList } := by
      have h1 : FileOk w4 x := by
        refine (hD.files x hxm).same (fun b hb => ?_)
        have hbl : b < w2.heap.size := hD.lt b (hD.inS b (by simp only [List.mem_cons, List.mem_flatMap]; exact .inr (.inr ⟨x, hxm, hb⟩)))
        rw [hb4.block b (by have := hc3.size; omega)]
        exact hcm.block b hbl (hD.neAF hxm hb).2
      exact ⟨h1.blk, h1.row, h1.apart⟩
    have hS : ∀ b ∈ x.foot, S b := fun b hb => h.inS b (by simp only [List.mem_cons, List.mem_flatMap]; exact .inr (.inr ⟨x, hxm, hb⟩))
    have hfoot : ({ x with name := t.data.toList } : Fl).foot = x.foot := rfl
    have hput := hD4.put' (w' := w5) (x := { x with name := t.data.toList }) (k := (delK Fl.key n.data.toList F).length + 1) hfx ?_ (by rw [hfoot]; exact hS) (by have := h.len; have := h.ok.many; have : (delK Fl.key n.data.toList F).length ≤ F.length := List.length_filter_le _ _; unfold maxLen; omega) hown5 hcm5 ?_
    · have hc5 : Chg S w3 w5 := (Chg.of_below hb4).trans (hcm5.mono (T := S) (fun b e => by rw [e]; exact hD.inM)) (fun b hb => .inl hb)
      refine ⟨w5, hrun, rfl, ?_, Chg.trans (Chg.trans hc' hc3 (fun b hb => .inl hb)) hc5 (fun b hb => .inl hb)⟩
      exact ⟨mb, _, hput.widen grow_mono (grow_lt h.lt (by have := hc'.size; have := hc3.size; have := hc5.size; omega))⟩
    · intro b hb hin
      rw [hfoot] at hb
      obtain ⟨F1, F2, e1, _, e3⟩ := fl_split h.rise hx
      rw [e3] at hin
      have hap := h.apart
      rw [e1] at hap
      simp only [List.flatMap_append, List.flatMap_cons] at hap hin
      rw [List.nodup_cons, List.nodup_cons, List.nodup_append] at hap
      obtain ⟨n1, n2, n3, n4, n5⟩ := hap
      rw [List.nodup_append] at n4
      simp only [List.mem_cons, List.mem_append] at n1 n2 hin
      rcases hin with rfl | rfl | hin | hin
      · exact n1 (.inr (.inr (.inl hb)))
      · exact n2 (.inr (.inl hb))
      · exact n5 b hin b (by simp [hb]) rfl
      · exact n4.2.2 b hb b hin rfl
    · have hA : fndK AF.key n.data.toList s.L = some x.abs := by rw [h.fnd, hx]; rfl
      have hm1 := fndK_some hA
      have hl := delK_length h.ok.rise hA
      have hl2 : (delK AF.key t.data.toList (delK AF.key n.data.toList s.L)).length ≤ (delK AF.key n.data.toList s.L).length := List.length_filter_le _ _
      have hz1 := sz_del t.data.toList (delK AF.key n.data.toList s.L)
      have hz2 := sz_del_fnd h.ok.rise hA
      have := h.ok.room
      have := h.ok.many
      have hok1 : ({ ticked s with L := delK AF.key t.data.toList (delK AF.key n.data.toList s.L) } : Dk).Ok := Ok_del (Ok_del hD.ok n.data.toList) t.data.toList
      exact Ok_ins (s := { ticked s with L := delK AF.key t.data.toList (delK AF.key n.data.toList s.L) }) hok1 (f := { x.abs with name := t.data.toList }) hnm (show x.abs.synced ≤ x.abs.data.length from h.ok.sync x.abs hm1.1) (fun y hy => (delK_mem.1 hy).2) (by show (delK _ _ _).length < 40; omega) (by show (sz (delK _ _ _) : Int) + (x.abs.data.length : Int) ≤ s.most; omega)
  have HS := hid hsp
  have hkey := keyStr n hn
  clear hsp h hd hx hfu hnm
  generalize ({ ticked s with L := insK AF.key { x.abs with name := t.data.toList } (delK AF.key t.data.toList (delK AF.key n.data.toList s.L)) } : Dk) = sd at *
  go_enter Tryz.func61, Tryz.ntmps61
  go_wp2_with (first
    | (go_at_call 88; (with_reducible refine HI.out.mono ?_); rintro e w1 ⟨rfl, rfl⟩)
    | (go_at_call 84; (with_reducible refine (HN.out _).mono ?_); rintro e w1 ⟨rfl, rfl⟩)
    | (go_at_call 86; (with_reducible refine HS.out.mono ?_); rintro e w2 ⟨rfl, d0, hown, HP⟩)
    | (at_delete; refine wpList_delete_own _ rfl _ _ 69 9 rfl 73 keyedStr Tryz.underlying69 ptrElem mb F.length _ rfl hown _ _ rfl hkey ?_; intro w3 hm hturn; obtain ⟨d1, hlt3, HQ⟩ := HP.out w3 hm hturn; clear hm hturn))
  go_region_with (go_at_call 90; (with_reducible refine (clone_any t _ ht24).mono ?_); rintro e w4 ⟨rfl, hb4⟩; have hb5 : Below w3.heap.size w3 w4 := (Below.drew (Below.refl _ _)).trans hb4; have d4 := (hb5.cell (p := ⟨a, 1, none⟩) hlt3).trans d1; obtain ⟨w5, hrun, hpost⟩ := HQ.out w4 hb5; have HR := hid hpost; clear hpost)
  all_goals
    go_wp2
    go_ret
    exact HR.out

/-- RENAME. -/
theorem ren_any (h : DiskIs w S a s) (n t : ByteArray) (hn : n.size ≤ maxLen) (ht : t.size ≤ maxLen) :
    Calls Tryz.prog 61 #[.pointer (some ⟨a, 0, none⟩), .string n, .string t] w (OpPost w S a (ren s n.data.toList t.data.toList)) := by
  obtain ⟨mb, F, h⟩ := h
  cases hd : s.dead with
  | true => exact ren_fail h n hn (.inl hd) t
  | false =>
    cases hx : fndK Fl.key n.data.toList F with
    | none => exact ren_fail h n hn (.inr hx) t
    | some x =>
      cases hnm : isName t.data.toList with
      | false =>
        have : ren s n.data.toList t.data.toList = (s, 3) := by unfold ren; rw [(need_ok h hd hx).2, if_pos hnm]
        rw [this]
        exact ren_name h n hn hd hx t ht hnm
      | true =>
        have hnn : ¬ isName t.data.toList = false := by rw [hnm]; simp
        by_cases hfu : s.fuse = 0
        · have : ren s n.data.toList t.data.toList = ({ s with dead := true }, 7) := by unfold ren; rw [(need_ok h hd hx).2, if_neg hnn, spends_dead hfu]
          rw [this]
          exact ren_dead h n hn hd hx hfu t ht hnm
        · have : ren s n.data.toList t.data.toList = ({ ticked s with L := insK AF.key { x.abs with name := t.data.toList } (delK AF.key t.data.toList (delK AF.key n.data.toList s.L)) }, 0) := by unfold ren; rw [(need_ok h hd hx).2, if_neg hnn, spends_ok hfu]; rfl
          rw [this]
          exact ren_ok h n hn hd hx hfu t ht hnm

end
end Go.Proofs.YtbccikefccdekaaGreatDoor

