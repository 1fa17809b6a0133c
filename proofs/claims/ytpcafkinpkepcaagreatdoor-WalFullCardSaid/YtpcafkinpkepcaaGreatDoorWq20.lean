import Derived.Test.YtpcafkinpkepcaaGreatDoorWq19
/-
  Wq20: DkG, in one text.
-/
/-
  LAYER 2 (disk): Delete, Rename, Fuse.
-/
namespace Go.Proofs.YtpcafkinpkepcaaGreatDoor
open Go.RowKit Go.Maps
set_option linter.unusedVariables false
set_option maxRecDepth 100000

section
variable {w w' : World} {S : Nat → Prop} {a mb : Nat} {F : List Fl} {s : Dk}

set_option maxHeartbeats 1000000 in
theorem dele_fail (h : DiskRep w S a mb F s) (n : ByteArray) (hn : n.size ≤ maxLen) (hx : s.dead = true ∨ fndK Fl.key n.data.toList F = none) :
    Calls Tryz.prog 96 #[.pointer (some ⟨a, 0, none⟩), .string n] w (OpPost w S a (dele s n.data.toList)) := by
  obtain ⟨k, hk, hv, hneed⟩ := need_fail h n hx
  have hr : dele s n.data.toList = (s, k) := hneed _
  rw [hr]
  have HF := hid (show OpPost w S a (s, k) (.returned (.int .i64 k)) w from OpPost.none h (Below.refl _ _) rfl rfl)
  have HI := hid (find_is w h n hn _ hv)
  clear hr hneed hv h hx
  rcases hk with rfl | rfl
  all_goals
    go_enter Tryz.func96, Tryz.ntmps96
    go_wp2_with (go_at_call 131; (with_reducible refine HI.out.mono ?_); rintro e w1 ⟨rfl, rfl⟩)
    go_ret
    exact HF.out

set_option maxHeartbeats 1000000 in
theorem dele_dead (h : DiskRep w S a mb F s) (n : ByteArray) (hn : n.size ≤ maxLen) (hd : s.dead = false) {x : Fl} (hx : fndK Fl.key n.data.toList F = some x) (hfu : s.fuse = 0) :
    Calls Tryz.prog 96 #[.pointer (some ⟨a, 0, none⟩), .string n] w (OpPost w S a ({ s with dead := true }, 7)) := by
  have HI := hid (find_is w h n hn _ (need_ok h hd hx).1)
  have HS := hid (spend_dead h hfu)
  clear h hd hx hfu
  generalize ({ s with dead := true } : Dk) = sd at *
  go_enter Tryz.func96, Tryz.ntmps96
  go_wp2_with (first
    | (go_at_call 131; (with_reducible refine HI.out.mono ?_); rintro e w1 ⟨rfl, rfl⟩)
    | (go_at_call 71; (with_reducible refine HS.out.mono ?_); rintro e w2 ⟨rfl, hP⟩; have HP := hid hP; clear hP))
  go_ret
  exact HP.out

def DelTail (w : World) (S : Nat → Prop) (a mb : Nat) (F : List Fl) (r : Dk × Int) (n : ByteArray) (e : Ending) (w2 : World) : Prop :=
  e = .returned (.int .i64 0) ∧ w2.cell? ⟨a, 1, none⟩ = some (.map (some mb)) ∧ w2.ownsMap Tryz.prog 9 ptrElem mb F.length (.map (entOf F)) ∧
    Hid (∀ w3, w3.ownsMap Tryz.prog 9 ptrElem mb F.length (DataW.del (.map (entOf F)) (.string n.data.toList)) → w2.mapTurned w3 mb → OpPost w S a r (.returned (.int .i64 0)) w3)
set_option maxHeartbeats 1000000 in
theorem dele_ok (h : DiskRep w S a mb F s) (n : ByteArray) (hn : n.size ≤ maxLen) (hd : s.dead = false) {x : Fl} (hx : fndK Fl.key n.data.toList F = some x) (hfu : s.fuse ≠ 0) :
    Calls Tryz.prog 96 #[.pointer (some ⟨a, 0, none⟩), .string n] w (OpPost w S a ({ ticked s with L := delK AF.key n.data.toList s.L }, 0)) := by
  have HI := hid (find_is w h n hn _ (need_ok h hd hx).1)
  have hsp : Calls Tryz.prog 71 #[.pointer (some ⟨a, 0, none⟩)] w (DelTail w S a mb F ({ ticked s with L := delK AF.key n.data.toList s.L }, 0) n) := by
    refine (spend_hid w h 0 (if_neg hfu) _ (if_neg hfu)).mono ?_
    rintro e w2 ⟨rfl, hD, hc, hz⟩
    have hc' : Chg S w w2 := hc.mono (fun b e => by rw [e]; exact h.inA)
    obtain ⟨left, hw, _⟩ := hD.head
    refine ⟨rfl, by rw [hw.cell 1]; rfl, hD.map, hid (fun w3 hm ht => ?_)⟩
    have hcm := mapTurned_chg ht
    have hD3 := hD.del n.data.toList hm hcm
    have hc3 : Chg S w2 w3 := hcm.mono (fun b e => by rw [e]; exact hD.inM)
    exact ⟨rfl, ⟨mb, _, hD3.widen grow_mono (grow_lt h.lt (by have := hc'.size; have := hc3.size; omega))⟩, hc'.trans hc3 (fun b hb => .inl hb)⟩
  have HS := hid hsp
  have hkey := keyStr n hn
  clear hsp h hd hx hfu
  generalize ({ ticked s with L := delK AF.key n.data.toList s.L } : Dk) = sd at *
  go_enter Tryz.func96, Tryz.ntmps96
  go_wp2_with (first
    | (go_at_call 131; (with_reducible refine HI.out.mono ?_); rintro e w1 ⟨rfl, rfl⟩)
    | (go_at_call 71; (with_reducible refine HS.out.mono ?_); rintro e w2 ⟨rfl, d0, hown, HP⟩)
    | (at_delete; refine wpList_delete_own _ rfl _ _ 103 9 rfl 119 keyedStr Tryz.underlying103 ptrElem mb F.length _ rfl hown _ _ rfl hkey ?_; intro w3 hm ht; have HQ := hid (HP.out w3 hm ht); clear hm ht))
  go_ret
  exact HQ.out

/-- DELETE. -/
theorem dele_any (h : DiskIs w S a s) (n : ByteArray) (hn : n.size ≤ maxLen) :
    Calls Tryz.prog 96 #[.pointer (some ⟨a, 0, none⟩), .string n] w (OpPost w S a (dele s n.data.toList)) := by
  obtain ⟨mb, F, h⟩ := h
  cases hd : s.dead with
  | true => exact dele_fail h n hn (.inl hd)
  | false =>
    cases hx : fndK Fl.key n.data.toList F with
    | none => exact dele_fail h n hn (.inr hx)
    | some x =>
      by_cases hfu : s.fuse = 0
      · have : dele s n.data.toList = ({ s with dead := true }, 7) := by unfold dele; rw [(need_ok h hd hx).2, spends_dead hfu]
        rw [this]
        exact dele_dead h n hn hd hx hfu
      · have : dele s n.data.toList = ({ ticked s with L := delK AF.key n.data.toList s.L }, 0) := by unfold dele; rw [(need_ok h hd hx).2, spends_ok hfu]; rfl
        rw [this]
        exact dele_ok h n hn hd hx hfu

theorem name_is (t : ByteArray) (ht : t.size ≤ maxLen) (b : Bool) (hb : isName t.data.toList = b) (w : World) : Calls Tryz.prog 70 #[.string t] w fun e w' => e = .returned (.bool b) ∧ w = w' := by
  subst hb; exact name_any t w ht
def FusePost (w : World) (S : Nat → Prop) (a : Nat) (s : Dk) (e : Ending) (w' : World) : Prop := e = .returned (.tuple #[]) ∧ DiskIs w' (grow S w w') a s ∧ Chg S w w'
set_option maxHeartbeats 1000000 in
theorem fuse_any (h : DiskIs w S a s) (k : Int) (hk : k ≤ 9223372036854775807) :
    Calls Tryz.prog 34 #[.pointer (some ⟨a, 0, none⟩), .int .i64 k] w (FusePost w S a (setFuse s k)) := by
  obtain ⟨mb, F, h⟩ := h
  obtain ⟨left, hw, _⟩ := h.head
  have h1 := hw.set 2 (.bool (decide (k ≥ 0)))
  have h2 := h1.set 3 (.int .i64 k)
  have d2 := hw.cell 2
  have f2 := hw.frozen 2
  have d3 := h1.cell 3
  have f3 := h1.frozen 3
  simp at d2 d3 f2 f3
  have hc : Chg (fun b => b = a) w ((w.setCell ⟨a, 2, none⟩ (.bool (decide (k ≥ 0)))).setCell ⟨a, 3, none⟩ (.int .i64 k)) := (Chg.setCell w ⟨a, 2, none⟩ _).trans (Chg.setCell _ ⟨a, 3, none⟩ _) (fun b hb => .inl hb)
  have hD := h.turn (w' := (w.setCell ⟨a, 2, none⟩ (.bool (decide (k ≥ 0)))).setCell ⟨a, 3, none⟩ (.int .i64 k)) (fu := max k (-1)) (left := k) (dd := s.dead) (by
    have e : decide (0 ≤ max k (-1)) = decide (k ≥ 0) := by rw [Bool.eq_iff_iff]; simp; omega
    rw [e]; simpa using h2) (fun h0 => by omega) hc (by omega)
  have hc' : Chg S w ((w.setCell ⟨a, 2, none⟩ (.bool (decide (k ≥ 0)))).setCell ⟨a, 3, none⟩ (.int .i64 k)) := hc.mono (fun b e => by rw [e]; exact h.inA)
  have hfin : FusePost w S a (setFuse s k) (.returned (.tuple #[])) ((w.setCell ⟨a, 2, none⟩ (.bool (decide (k ≥ 0)))).setCell ⟨a, 3, none⟩ (.int .i64 k)) :=
    ⟨rfl, ⟨mb, F, hD.widen grow_mono (grow_lt h.lt hc'.size)⟩, hc'⟩
  have HF := hid hfin
  clear hfin hc' hD hc h1 h2 hw h
  generalize hq : decide (k ≥ 0) = q at *
  generalize setFuse s k = s' at *
  go_enter Tryz.func34, Tryz.ntmps34
  go_wp2
  go_end0
  exact HF.out
end
end Go.Proofs.YtpcafkinpkepcaaGreatDoor

