import Derived.Test.YtbccikefccdekaaGreatDoorMq2J
import Derived.Test.YtbccikefccdekaaGreatDoorMq0J
import Derived.Laws.BitsAllLaws
/-
  LAYER 2 (disk): Append, where it passes.
-/
namespace Go.Proofs.YtbccikefccdekaaGreatDoor
open Go.RowKit Go.Maps
set_option linter.unusedVariables false
set_option maxRecDepth 100000

section
variable {w w' : World} {S : Nat → Prop} {a mb : Nat} {F : List Fl} {s : Dk}

theorem grow_grow {w1 w2 : World} (h1 : w.heap.size ≤ w1.heap.size) (h2 : w1.heap.size ≤ w2.heap.size) : ∀ b, grow (grow S w w1) w1 w2 b → grow S w w2 b := by
  intro b hb
  rcases hb with (hb | hb) | hb
  · exact .inl hb
  · exact .inr ⟨hb.1, by omega⟩
  · exact .inr ⟨by omega, hb.2⟩
/-- What went before, and what came of it. -/
theorem DiskRep.after {w1 w2 : World} {S1 : Nat → Prop} {F' : List Fl} {s' : Dk} (hS : ∀ b, S1 b → grow S w w1 b) (hlt : ∀ b, S b → b < w.heap.size) (hz : w.heap.size ≤ w1.heap.size) (hz2 : w1.heap.size ≤ w2.heap.size)
    (h : DiskRep w2 (grow S1 w1 w2) a mb F' s') : DiskRep w2 (grow S w w2) a mb F' s' := by
  refine h.widen (fun b hb => ?_) (grow_lt hlt (by omega))
  rcases hb with hb | hb
  · rcases hS b hb with h1 | h1
    · exact .inl h1
    · exact .inr ⟨h1.1, by omega⟩
  · exact .inr ⟨by omega, hb.2⟩
theorem Chg.after {w1 w2 : World} {S1 : Nat → Prop} (h : Chg S w w1) (hS : ∀ b, S1 b → grow S w w1 b) (h2 : Chg S1 w1 w2) : Chg S w w2 :=
  h.trans h2 (fun b hb => by rcases hS b hb with h1 | h1; exact .inl h1; exact .inr h1.1)

set_option maxHeartbeats 2000000 in
theorem append_dead (h : DiskRep w S a mb F s) (n d : ByteArray) (hn : n.size ≤ maxLen) (hd : d.size ≤ 140737488355328) (hdd : s.dead = false) (hnm : isName n.data.toList = true) (v : Value) (b : Bool)
    (hl0 : LookIs w mb n v b) (hlen0 : LenIs w mb b) (hfull : ¬ s.most - (sz s.L : Int) < d.size) (hfu : s.fuse = 0) :
    Calls Tryz.prog 58 #[.pointer (some ⟨a, 0, none⟩), .string n, .string d] w (OpPost w S a ({ s with dead := true }, 7)) := by
  obtain ⟨left, hw, _⟩ := h.head
  have c0 := hw.cell 0
  have c1 := hw.cell 1
  have c4 := hw.cell 4
  simp [hdd] at c0 c1 c4
  have HN := hid (fun w => by have := name_any n w hn; rwa [hnm] at this)
  have HZ := hid (fun w1 (hb : Below w.heap.size w w1) => size_any (h.below hb))
  have hsp : ∀ w1, Below w.heap.size w w1 → Calls Tryz.prog 86 #[.pointer (some ⟨a, 0, none⟩)] w1 fun e w2 => e = .returned (.int .i64 7) ∧ OpPost w S a ({ s with dead := true }, 7) (.returned (.int .i64 7)) w2 := by
    intro w1 hb1
    refine (spend_hid w1 (h.below hb1) 7 (if_pos hfu) _ (if_pos hfu)).mono ?_
    rintro e w2 ⟨rfl, hD, hc, hz⟩
    have hc' : Chg S w w2 := (Chg.of_below hb1).trans hc (fun b e => .inl (by rw [e]; exact h.inA))
    exact ⟨rfl, rfl, ⟨mb, F, hD.widen grow_mono (grow_lt h.lt hc'.size)⟩, hc'⟩
  have HS := hid hsp
  have hm1 : s.most ≤ 10000000 := h.ok.most
  have hm2 : (sz s.L : Int) ≤ s.most := h.ok.room
  have hm3 : 0 ≤ (sz s.L : Int) := by omega
  have ha : a < w.heap.size := hw.lt
  have hq2 : decide ((d.size : Int) > s.most - (sz s.L : Int)) = false := by simp; omega
  unfold maxLen at hn
  unfold LookIs at hl0
  obtain ⟨k, hlen, hk⟩ := hlen0
  clear hnm hdd h hw hsp hfull
  generalize (sz s.L : Int) = N at *
  have hW : IntKind.i64.wrap (s.most - N) = s.most - N := IntWalk.i64_in _ (by omega)
  generalize s.most = M at *
  have hkk : b = true ∨ (b = false ∧ decide (k ≥ 40) = false) := by
    rcases hk with hk | hk
    · exact .inl hk
    · cases b with
      | true => exact .inl rfl
      | false => exact .inr ⟨rfl, by simp; omega⟩
  clear hk
  generalize ({ s with dead := true } : Dk) = sd at *
  rcases hkk with rfl | ⟨rfl, hkk⟩
  all_goals
    go_enter Tryz.func58, Tryz.ntmps58
    go_wp2_with (go_at_call 84; (with_reducible refine (HN.out _).mono ?_); rintro e w1 ⟨rfl, rfl⟩)
    go_region_held3 (fun wx => wx.cell? ⟨a, 0, none⟩ = some (.int .i64 M) ∧ Below w.heap.size w wx) (first | exact ⟨c0, Below.drew (Below.refl _ _)⟩ | exact ⟨hc3, hb3⟩ | go_keep)
      (first | (go_at_call 85; (with_reducible refine (HZ.out _ (And.right (by assumption))).mono ?_); rintro e w2 ⟨rfl, hb2⟩; have hb3 : Below w.heap.size w w2 := Below.trans (And.right (by assumption)) (hb2.mono (Below.size (And.right (by assumption)))); have hc3 := (hb3.cell (p := ⟨a, 0, none⟩) ha).trans c0))
    clear hW
    go_wp2_with (go_at_call 86; (with_reducible refine (HS.out _ (And.right (by assumption))).mono ?_); rintro e w4 ⟨rfl, hP⟩; have HP := hid hP; clear hP)
    go_ret
    exact HP.out

def OldTail (w : World) (S : Nat → Prop) (a : Nat) (r : Dk × Int) (x : Fl) (d : ByteArray) (e : Ending) (w2 : World) : Prop :=
  e = .returned (.int .i64 0) ∧ w2.cell? ⟨x.g, 0, none⟩ = some x.v ∧ ∃ ao nn cap w4, (Builtin.append_ #[33, 9] 33 #[x.v, .string d]).run Tryz.prog w2 = .ok (.slice ao nn cap) w4 ∧ w4.cell? ⟨x.g, 0, none⟩ = some x.v ∧ w4.frozen? ⟨x.g, 0, none⟩ = false ∧
    OpPost w S a r (.returned (.int .i64 0)) (w4.setCell ⟨x.g, 0, none⟩ (.slice ao nn cap))

set_option maxHeartbeats 2000000 in
theorem append_old (h : DiskRep w S a mb F s) (n d : ByteArray) (hn : n.size ≤ maxLen) (hd : d.size ≤ 140737488355328) (hdd : s.dead = false) (hnm : isName n.data.toList = true) (x : Fl)
    (hx : fndK Fl.key n.data.toList F = some x) (hfull : ¬ s.most - (sz s.L : Int) < d.size) (hfu : s.fuse ≠ 0) :
    Calls Tryz.prog 58 #[.pointer (some ⟨a, 0, none⟩), .string n, .string d] w (OpPost w S a ({ ticked s with L := updK AF.key n.data.toList (addF d.data.toList) s.L }, 0)) := by
  obtain ⟨left, hw, _⟩ := h.head
  have c0 := hw.cell 0
  have c1 := hw.cell 1
  have c4 := hw.cell 4
  simp [hdd] at c0 c1 c4
  have hl0 := look_some h hn hx
  have HN := hid (fun w => by have := name_any n w hn; rwa [hnm] at this)
  have HZ := hid (fun w1 (hb : Below w.heap.size w w1) => size_any (h.below hb))
  have hsp : ∀ w1, Below w.heap.size w w1 → Calls Tryz.prog 86 #[.pointer (some ⟨a, 0, none⟩)] w1 (OldTail w S a ({ ticked s with L := updK AF.key n.data.toList (addF d.data.toList) s.L }, 0) x d) := by
    intro w1 hb1
    refine (spend_hid w1 (h.below hb1) 0 (if_neg hfu) _ (if_neg hfu)).mono ?_
    rintro e w2 ⟨rfl, hD, hc, hz⟩
    have hc' : Chg S w w2 := (Chg.of_below hb1).trans hc (fun b e => .inl (by rw [e]; exact h.inA))
    obtain ⟨ao, nn, cap, w4, v', rfl, hr, h1, h2, ⟨F', hD4⟩, hc4⟩ := add_tail hD hx d (by show (sz s.L : Int) + d.size ≤ s.most; omega) 33
    have hcx := (hD.files x (fndK_some hx).1).blk.cell 0
    refine ⟨rfl, by rw [hcx]; rfl, ao, nn, cap, w4, hr, h1, h2, rfl, ⟨mb, F', ?_⟩, hc'.trans hc4 (fun b hb => .inl hb)⟩
    exact hD4.after (fun b hb => .inl hb) h.lt hc'.size hc4.size
  have HS := hid hsp
  have hm1 : s.most ≤ 10000000 := h.ok.most
  have hm2 : (sz s.L : Int) ≤ s.most := h.ok.room
  have hm3 : 0 ≤ (sz s.L : Int) := by omega
  have ha : a < w.heap.size := hw.lt
  have hq2 : decide ((d.size : Int) > s.most - (sz s.L : Int)) = false := by simp; omega
  unfold maxLen at hn
  unfold Fl.ptr at hl0
  clear hnm hdd h hw hsp hfull hx hfu
  generalize (sz s.L : Int) = N at *
  have hW : IntKind.i64.wrap (s.most - N) = s.most - N := IntWalk.i64_in _ (by omega)
  generalize s.most = M at *
  generalize ({ ticked s with L := updK AF.key n.data.toList (addF d.data.toList) s.L } : Dk) = sd at *
  go_enter Tryz.func58, Tryz.ntmps58
  go_wp2_with (go_at_call 84; (with_reducible refine (HN.out _).mono ?_); rintro e w1 ⟨rfl, rfl⟩)
  go_region_held3 (fun wx => wx.cell? ⟨a, 0, none⟩ = some (.int .i64 M) ∧ Below w.heap.size w wx) (first | exact ⟨c0, Below.drew (Below.refl _ _)⟩ | exact ⟨hc3, hb3⟩ | go_keep)
    (first | (go_at_call 85; (with_reducible refine (HZ.out _ (And.right (by assumption))).mono ?_); rintro e w2 ⟨rfl, hb2⟩; have hb3 : Below w.heap.size w w2 := Below.trans (And.right (by assumption)) (hb2.mono (Below.size (And.right (by assumption)))); have hc3 := (hb3.cell (p := ⟨a, 0, none⟩) ha).trans c0))
  clear hW
  go_wp2_with (first
    | (go_at_call 86; (with_reducible refine (HS.out _ (And.right (by assumption))).mono ?_); rintro e w4 ⟨rfl, hcx, ao, nn, cap, w5, hrun, hd1, hd2, hP⟩; have HP := hid hP; clear hP)
    | (at_builtin; refine wpList_append_run rfl _ _ 33 9 rfl _ _ rfl rfl _ w5 hrun ?_))
  go_ret
  exact HP.out

def NewTail (w : World) (S : Nat → Prop) (a : Nat) (r : Dk × Int) (g : Nat) (d : ByteArray) (e : Ending) (w2 : World) : Prop :=
  e = .returned (.pointer (some ⟨g, 0, none⟩)) ∧ w2.cell? ⟨g, 0, none⟩ = some (.slice none 0 0) ∧ ∃ ao nn cap w4, (Builtin.append_ #[33, 9] 33 #[.slice none 0 0, .string d]).run Tryz.prog w2 = .ok (.slice ao nn cap) w4 ∧
    w4.cell? ⟨g, 0, none⟩ = some (.slice none 0 0) ∧ w4.frozen? ⟨g, 0, none⟩ = false ∧ OpPost w S a r (.returned (.int .i64 0)) (w4.setCell ⟨g, 0, none⟩ (.slice ao nn cap))
def SpendNew (w : World) (S : Nat → Prop) (a : Nat) (n : ByteArray) (r : Dk × Int) (d : ByteArray) (e : Ending) (w2 : World) : Prop :=
  e = .returned (.int .i64 0) ∧ Hid (Calls Tryz.prog 87 #[.pointer (some ⟨a, 0, none⟩), .string n] w2 (NewTail w S a r w2.heap.size d))

set_option maxHeartbeats 2000000 in
theorem append_new (h : DiskRep w S a mb F s) (n d : ByteArray) (hn : n.size ≤ maxLen) (hd : d.size ≤ 140737488355328) (hdd : s.dead = false) (hnm : isName n.data.toList = true)
    (hx : fndK Fl.key n.data.toList F = none) (hmany : s.L.length < 40) (hfull : ¬ s.most - (sz s.L : Int) < d.size) (hfu : s.fuse ≠ 0) :
    Calls Tryz.prog 58 #[.pointer (some ⟨a, 0, none⟩), .string n, .string d] w (OpPost w S a ({ ticked s with L := insK AF.key (newF n.data.toList d.data.toList) s.L }, 0)) := by
  obtain ⟨left, hw, _⟩ := h.head
  have c0 := hw.cell 0
  have c1 := hw.cell 1
  have c4 := hw.cell 4
  simp [hdd] at c0 c1 c4
  have hl0 := look_none h hn hx
  have hlen := h.map.len Tryz.underlying69 3
  rw [size_ent] at hlen
  have hFl := h.len
  have hq0 : decide ((F.length : Int) ≥ 40) = false := by simp; omega
  have hnA : fndK AF.key n.data.toList s.L = none := by rw [h.fnd, hx]; rfl
  have hn48 : n.size ≤ 140737488355328 := by
    unfold isName at hnm
    simp at hnm
    rw [← str_len]; simp; omega
  have HN := hid (fun w => by have := name_any n w hn; rwa [hnm] at this)
  have HZ := hid (fun w1 (hb : Below w.heap.size w w1) => size_any (h.below hb))
  have hsp : ∀ w1, Below w.heap.size w w1 → Calls Tryz.prog 86 #[.pointer (some ⟨a, 0, none⟩)] w1 (SpendNew w S a n ({ ticked s with L := insK AF.key (newF n.data.toList d.data.toList) s.L }, 0) d) := by
    intro w1 hb1
    refine (spend_hid w1 (h.below hb1) 0 (if_neg hfu) _ (if_neg hfu)).mono ?_
    rintro e w2 ⟨rfl, hD, hc, hz⟩
    have hc' : Chg S w w2 := (Chg.of_below hb1).trans hc (fun b e => .inl (by rw [e]; exact h.inA))
    refine ⟨rfl, hid ((create_any hD n hn48 hnm hx (by rw [hFl]; exact hmany)).mono ?_)⟩
    rintro e w3 ⟨rfl, hD3, hc3⟩
    have hfx : fndK Fl.key n.data.toList (insK Fl.key (freshFl n.data.toList w2.heap.size) F) = some (freshFl n.data.toList w2.heap.size) := by
      rw [fndK_ins (fndK_none hx), if_pos (show n.data.toList = (freshFl n.data.toList w2.heap.size).key from rfl)]
    have hsz : sz (insK AF.key (newF n.data.toList []) s.L) = sz s.L := by rw [sz_ins]; simp [newF]
    obtain ⟨ao, nn, cap, w4, v', rfl, hr, h1, h2, ⟨F', hD4⟩, hc4⟩ := add_tail hD3 hfx d (by show (sz (insK AF.key (newF n.data.toList []) s.L) : Int) + d.size ≤ s.most; rw [hsz]; omega) 33
    have hcx := (hD3.files _ (fndK_some hfx).1).blk.cell 0
    have hc2 : Chg S w w3 := hc'.trans hc3 (fun b hb => .inl hb)
    have hgr : ∀ b, grow S w2 w3 b → grow S w w3 b := fun b hb => grow_grow hc'.size hc3.size b (by
      rcases hb with hb | hb
      · exact .inl (.inl hb)
      · exact .inr hb)
    refine ⟨rfl, by rw [show (freshFl n.data.toList w2.heap.size).g = w2.heap.size from rfl] at hcx; rw [hcx]; rfl, ao, nn, cap, w4, hr, h1, h2, rfl, ⟨mb, F', ?_⟩, hc2.after hgr hc4⟩
    have hL : ({ ticked s with L := insK AF.key (newF n.data.toList d.data.toList) s.L } : Dk) = { ticked s with L := updK AF.key n.data.toList (addF d.data.toList) (insK AF.key (newF n.data.toList []) s.L) } := by rw [upd_ins hnA]
    show DiskRep _ _ a mb F' ({ ticked s with L := insK AF.key (newF n.data.toList d.data.toList) s.L } : Dk)
    rw [hL]
    exact hD4.after hgr h.lt hc2.size hc4.size
  have HS := hid hsp
  have hm1 : s.most ≤ 10000000 := h.ok.most
  have hm2 : (sz s.L : Int) ≤ s.most := h.ok.room
  have hm3 : 0 ≤ (sz s.L : Int) := by omega
  have ha : a < w.heap.size := hw.lt
  have hq2 : decide ((d.size : Int) > s.most - (sz s.L : Int)) = false := by simp; omega
  unfold maxLen at hn
  clear hnm hdd h hw hsp hfull hx hfu hnA hFl
  generalize (sz s.L : Int) = N at *
  have hW : IntKind.i64.wrap (s.most - N) = s.most - N := IntWalk.i64_in _ (by omega)
  generalize s.most = M at *
  generalize ({ ticked s with L := insK AF.key (newF n.data.toList d.data.toList) s.L } : Dk) = sd at *
  go_enter Tryz.func58, Tryz.ntmps58
  go_wp2_with (go_at_call 84; (with_reducible refine (HN.out _).mono ?_); rintro e w1 ⟨rfl, rfl⟩)
  go_region_held3 (fun wx => wx.cell? ⟨a, 0, none⟩ = some (.int .i64 M) ∧ Below w.heap.size w wx) (first | exact ⟨c0, Below.drew (Below.refl _ _)⟩ | exact ⟨hc3, hb3⟩ | go_keep)
    (first | (go_at_call 85; (with_reducible refine (HZ.out _ (And.right (by assumption))).mono ?_); rintro e w2 ⟨rfl, hb2⟩; have hb3 : Below w.heap.size w w2 := Below.trans (And.right (by assumption)) (hb2.mono (Below.size (And.right (by assumption)))); have hc3 := (hb3.cell (p := ⟨a, 0, none⟩) ha).trans c0))
  clear hW
  go_wp2_with (first
    | (go_at_call 86; (with_reducible refine (HS.out _ (And.right (by assumption))).mono ?_); rintro e w4 ⟨rfl, HCr⟩)
    | (go_at_call 87; (with_reducible refine HCr.out.mono ?_); rintro e w6 ⟨rfl, hcx, ao, nn, cap, w5, hrun, hd1, hd2, hP⟩; have HP := hid hP; clear hP)
    | (at_builtin; refine wpList_append_run rfl _ _ 33 9 rfl _ _ rfl rfl _ w5 hrun ?_))
  go_ret
  exact HP.out

set_option maxHeartbeats 2000000 in
theorem append_early (h : DiskRep w S a mb F s) (n d : ByteArray) (hn : n.size ≤ maxLen) (k : Int) (hk : (s.dead = true ∧ k = 7) ∨ (s.dead = false ∧ isName n.data.toList = false ∧ k = 3) ∨ (s.dead = false ∧ isName n.data.toList = true ∧ fndK Fl.key n.data.toList F = none ∧ 40 ≤ s.L.length ∧ k = 11)) :
    Calls Tryz.prog 58 #[.pointer (some ⟨a, 0, none⟩), .string n, .string d] w (OpPost w S a (s, k)) := by
  obtain ⟨left, hw, _⟩ := h.head
  have c1 := hw.cell 1
  have c4 := hw.cell 4
  simp at c1 c4
  have hfin : OpPost w S a (s, k) (.returned (.int .i64 k)) w := OpPost.none h (Below.refl _ _) rfl rfl
  have HF := hid hfin
  have HN := hid (fun w => name_any n w hn)
  have hlen := h.map.len Tryz.underlying69 3
  rw [size_ent] at hlen
  have hFl := h.len
  obtain ⟨v, hl⟩ := look_any h hn
  have hl0 := fun hx => look_none h hn hx
  clear hfin h hw
  rcases hk with ⟨hdd, rfl⟩ | ⟨hdd, hnm, rfl⟩ | ⟨hdd, hnm, hx, hmany, rfl⟩
  · rw [hdd] at c4
    clear hl0 hFl hdd
    go_enter Tryz.func58, Tryz.ntmps58
    go_wp2
    go_ret
    exact HF.out
  · rw [hdd] at c4
    rw [hnm] at HN
    clear hl0 hFl hdd hnm
    go_enter Tryz.func58, Tryz.ntmps58
    go_wp2_with (go_at_call 84; (with_reducible refine (HN.out _).mono ?_); rintro e w1 ⟨rfl, rfl⟩)
    go_ret
    exact HF.out
  · rw [hdd] at c4
    rw [hnm] at HN
    have hl1 := hl0 hx
    have hq0 : decide ((F.length : Int) ≥ 40) = true := by simp; omega
    clear hl0 hl hFl hdd hnm hx
    go_enter Tryz.func58, Tryz.ntmps58
    go_wp2_with (go_at_call 84; (with_reducible refine (HN.out _).mono ?_); rintro e w1 ⟨rfl, rfl⟩)
    go_ret
    exact HF.out

/-- APPEND. -/
theorem append_any (h : DiskIs w S a s) (n d : ByteArray) (hn : n.size ≤ maxLen) (hd : d.size ≤ 140737488355328) :
    Calls Tryz.prog 58 #[.pointer (some ⟨a, 0, none⟩), .string n, .string d] w (OpPost w S a (app s n.data.toList d.data.toList)) := by
  obtain ⟨mb, F, h⟩ := h
  have hfa := h.fnd n.data.toList
  have hlen := h.map.len Tryz.underlying69 3
  rw [size_ent] at hlen
  have hFl := h.len
  cases hdd : s.dead with
  | true =>
    have : app s n.data.toList d.data.toList = (s, 7) := by unfold app; rw [if_pos hdd]
    rw [this]
    exact append_early h n d hn 7 (.inl ⟨hdd, rfl⟩)
  | false =>
    have hdn : ¬ s.dead = true := by rw [hdd]; simp
    cases hnm : isName n.data.toList with
    | false =>
      have : app s n.data.toList d.data.toList = (s, 3) := by unfold app; rw [if_neg hdn, if_pos hnm]
      rw [this]
      exact append_early h n d hn 3 (.inr (.inl ⟨hdd, hnm, rfl⟩))
    | true =>
      have hnn : ¬ isName n.data.toList = false := by rw [hnm]; simp
      cases hx : fndK Fl.key n.data.toList F with
      | none =>
        rw [hx] at hfa
        have hfa' : fndK AF.key n.data.toList s.L = none := hfa
        by_cases hmany : 40 ≤ s.L.length
        · have : app s n.data.toList d.data.toList = (s, 11) := by unfold app; rw [if_neg hdn, if_neg hnn, hfa']; simp only; rw [if_pos hmany]
          rw [this]
          exact append_early h n d hn 11 (.inr (.inr ⟨hdd, hnm, hx, hmany, rfl⟩))
        · by_cases hfull : s.most - (sz s.L : Int) < d.size
          · have : app s n.data.toList d.data.toList = (s, 6) := by unfold app; rw [if_neg hdn, if_neg hnn, hfa']; simp only; rw [if_neg hmany, if_pos (by rw [str_len]; exact hfull)]
            rw [this]
            exact append_full h n d hn hd hdd hnm (.pointer none) false (look_none h hn hx) ⟨_, hlen, .inr (by omega)⟩ hfull
          · by_cases hfu : s.fuse = 0
            · have : app s n.data.toList d.data.toList = ({ s with dead := true }, 7) := by unfold app; rw [if_neg hdn, if_neg hnn, hfa']; simp only; rw [if_neg hmany, if_neg (by rw [str_len]; exact hfull), spends_eq, if_pos hfu]; unfold spendTo; rw [if_pos hfu]
              rw [this]
              exact append_dead h n d hn hd hdd hnm (.pointer none) false (look_none h hn hx) ⟨_, hlen, .inr (by omega)⟩ hfull hfu
            · have : app s n.data.toList d.data.toList = ({ ticked s with L := insK AF.key (newF n.data.toList d.data.toList) s.L }, 0) := by unfold app; rw [if_neg hdn, if_neg hnn, hfa']; simp only; rw [if_neg hmany, if_neg (by rw [str_len]; exact hfull), spends_eq, if_neg hfu]; rfl
              rw [this]
              exact append_new h n d hn hd hdd hnm hx (by omega) hfull hfu
      | some x =>
        rw [hx] at hfa
        have hfa' : fndK AF.key n.data.toList s.L = some x.abs := hfa
        by_cases hfull : s.most - (sz s.L : Int) < d.size
        · have : app s n.data.toList d.data.toList = (s, 6) := by unfold app; rw [if_neg hdn, if_neg hnn, hfa']; simp only; rw [if_pos (by rw [str_len]; exact hfull)]
          rw [this]
          exact append_full h n d hn hd hdd hnm x.ptr true (look_some h hn hx) ⟨_, hlen, .inl rfl⟩ hfull
        · by_cases hfu : s.fuse = 0
          · have : app s n.data.toList d.data.toList = ({ s with dead := true }, 7) := by unfold app; rw [if_neg hdn, if_neg hnn, hfa']; simp only; rw [if_neg (by rw [str_len]; exact hfull), spends_eq, if_pos hfu]; unfold spendTo; rw [if_pos hfu]
            rw [this]
            exact append_dead h n d hn hd hdd hnm x.ptr true (look_some h hn hx) ⟨_, hlen, .inl rfl⟩ hfull hfu
          · have : app s n.data.toList d.data.toList = ({ ticked s with L := updK AF.key n.data.toList (addF d.data.toList) s.L }, 0) := by unfold app; rw [if_neg hdn, if_neg hnn, hfa']; simp only; rw [if_neg (by rw [str_len]; exact hfull), spends_eq, if_neg hfu]; rfl
            rw [this]
            exact append_old h n d hn hd hdd hnm x hx hfull hfu
end
end Go.Proofs.YtbccikefccdekaaGreatDoor

/-
  LAYER 2 (disk): Sync, Truncate, Rename, Delete, Fuse.
-/
namespace Go.Proofs.YtbccikefccdekaaGreatDoor
open Go.RowKit Go.Maps
set_option linter.unusedVariables false
set_option maxRecDepth 100000

section
variable {w w' : World} {S : Nat → Prop} {a mb : Nat} {F : List Fl} {s : Dk}

/-- What 'find' says where the call fails there. -/
theorem need_fail (h : DiskRep w S a mb F s) (n : ByteArray) (hx : s.dead = true ∨ fndK Fl.key n.data.toList F = none) :
    ∃ k : Int, (k = 7 ∨ k = 4) ∧ FindV s F n.data.toList = .tuple #[.pointer none, .int .i64 k] ∧ ∀ K, need s n.data.toList K = (s, k) := by
  cases hd : s.dead with
  | true => exact ⟨7, .inl rfl, by unfold FindV; rw [hd]; rfl, fun K => by unfold need; rw [if_pos hd]⟩
  | false =>
    have hx' : fndK Fl.key n.data.toList F = none := by
      rcases hx with hx | hx
      · rw [hd] at hx; cases hx
      · exact hx
    have hA : fndK AF.key n.data.toList s.L = none := by rw [h.fnd, hx']; rfl
    exact ⟨4, .inr rfl, by unfold FindV; rw [hd, hx']; rfl, fun K => by unfold need; rw [hd, hA]; rfl⟩
theorem need_ok (h : DiskRep w S a mb F s) {n : ByteArray} {x : Fl} (hd : s.dead = false) (hx : fndK Fl.key n.data.toList F = some x) :
    FindV s F n.data.toList = .tuple #[.pointer (some ⟨x.g, 0, none⟩), .int .i64 0] ∧ ∀ K, need s n.data.toList K = K x.abs := by
  have hA : fndK AF.key n.data.toList s.L = some x.abs := by rw [h.fnd, hx]; rfl
  exact ⟨by unfold FindV; rw [hd, hx]; rfl, fun K => by unfold need; rw [hd, hA]; rfl⟩
theorem find_is (w : World) (h : DiskRep w S a mb F s) (n : ByteArray) (hn : n.size ≤ maxLen) (v : Value) (hv : FindV s F n.data.toList = v) :
    Calls Tryz.prog 88 #[.pointer (some ⟨a, 0, none⟩), .string n] w fun e w' => e = .returned v ∧ w = w' := by
  subst hv; exact find_any h n hn
/-- What 'spend' leaves where the power goes. -/
theorem spend_dead (h : DiskRep w S a mb F s) (hfu : s.fuse = 0) :
    Calls Tryz.prog 86 #[.pointer (some ⟨a, 0, none⟩)] w fun e w2 => e = .returned (.int .i64 7) ∧ OpPost w S a ({ s with dead := true }, 7) (.returned (.int .i64 7)) w2 := by
  refine (spend_hid w h 7 (if_pos hfu) _ (if_pos hfu)).mono ?_
  rintro e w2 ⟨rfl, hD, hc, hz⟩
  have hc' : Chg S w w2 := hc.mono (fun b e => by rw [e]; exact h.inA)
  exact ⟨rfl, rfl, ⟨mb, F, hD.widen grow_mono (grow_lt h.lt hc'.size)⟩, hc'⟩
theorem spends_dead (hfu : s.fuse = 0) (k : Dk → Dk) : spends s k = ({ s with dead := true }, 7) := by
  rw [spends_eq, if_pos hfu]; unfold spendTo; rw [if_pos hfu]
theorem spends_ok (hfu : s.fuse ≠ 0) (k : Dk → Dk) : spends s k = (k (ticked s), 0) := by
  rw [spends_eq, if_neg hfu]

/-- A file's two cells are written, its row stays. -/
theorem cells_tail {w2 : World} (h : DiskRep w2 S a mb F s) {n : List UInt8} {x : Fl} (hx : fndK Fl.key n F = some x) (H : AF → AF) (hHn : ∀ f, (H f).name = f.name) {ao : Option Addr} {cap k : Nat} {m : Nat}
    (hv : x.v = .slice ao x.data.length cap) (hk : k ≤ x.data.length) (hH : H x.abs = ⟨x.name, x.data.take k, m⟩) (hok : ({ s with L := updK AF.key n H s.L } : Dk).Ok) (w3 : World)
    (hw3 : own w3 x.g #[.slice ao k cap, .int .i64 (m : Int)] 99) (hc : Chg (fun b => b = x.g) w2 w3) :
    DiskIs w3 (grow S w2 w3) a { s with L := updK AF.key n H s.L } ∧ Chg S w2 w3 := by
  obtain ⟨hxm, hxn⟩ := fndK_some hx
  have hf := h.files x hxm
  have hxg : S x.g := h.inS _ (by simp only [List.mem_cons, List.mem_flatMap]; exact .inr (.inr ⟨x, hxm, by simp [Fl.foot]⟩))
  have hob : (Value.slice ao k cap).ownBlock = x.v.ownBlock := by rw [hv]; cases ao <;> rfl
  have hrow : Bytes w3 0 (.slice ao k cap) (x.data.take k) := by
    have h1 := hf.row
    have hlen : (x.data.take k).length = k := by rw [List.length_take]; omega
    unfold Bytes at h1 ⊢
    refine ⟨by simp [Lib.byteCells], ?_⟩
    rw [hlen]
    rcases h1.2 with ⟨h2, h0⟩ | ⟨g, cap', cur, h2, hB, hg, hnc, hcm, hcs, htake⟩
    · rw [hv] at h2
      simp at h2
      obtain ⟨rfl, _, rfl⟩ := h2
      exact .inl ⟨by rw [show k = 0 by omega], by omega⟩
    · rw [hv] at h2
      simp at h2
      obtain ⟨rfl, rfl⟩ := h2
      refine .inr ⟨g, cap, cur, rfl, hB, ?_, by omega, hcm, hcs, ?_⟩
      · rw [hc.block g (Array.getElem?_eq_some_iff.1 hg).1 (fun e => ?_)]
        · exact hg
        · have := hf.apart
          rw [hv, ← e] at this
          exact this rfl
      · have h3 := congrArg (List.take (k * 1)) htake
        rw [List.take_take, Nat.min_eq_left (by omega)] at h3
        rw [h3]
        simp [Lib.byteCells, List.map_take]
  have hset := h.set (w' := w3) (x' := { x with v := .slice ao k cap, data := x.data.take k, synced := m }) hx rfl rfl (H := H) hH.symm hHn ⟨hw3, hrow, by rw [hob]; exact hf.apart⟩ (hc.mono (fun b e => by rw [e]; simp [Fl.foot])) (fun b hb => .inl ?_) hok
  · obtain ⟨F', h1, _⟩ := hset
    exact ⟨⟨mb, F', h1⟩, hc.mono (fun b e => by rw [e]; exact hxg)⟩
  · simp only [Fl.foot, List.mem_cons, Option.mem_toList] at hb ⊢
    rw [hob] at hb
    exact hb

set_option maxHeartbeats 1000000 in
theorem sync_fail (h : DiskRep w S a mb F s) (n : ByteArray) (hn : n.size ≤ maxLen) (hx : s.dead = true ∨ fndK Fl.key n.data.toList F = none) :
    Calls Tryz.prog 59 #[.pointer (some ⟨a, 0, none⟩), .string n] w (OpPost w S a (syn s n.data.toList)) := by
  obtain ⟨k, hk, hv, hneed⟩ := need_fail h n hx
  have hr : syn s n.data.toList = (s, k) := hneed _
  rw [hr]
  have HF := hid (show OpPost w S a (s, k) (.returned (.int .i64 k)) w from OpPost.none h (Below.refl _ _) rfl rfl)
  have HI := hid (find_is w h n hn _ hv)
  clear hr hneed hv h hx
  rcases hk with rfl | rfl
  all_goals
    go_enter Tryz.func59, Tryz.ntmps59
    go_wp2_with (go_at_call 88; (with_reducible refine HI.out.mono ?_); rintro e w1 ⟨rfl, rfl⟩)
    go_ret
    exact HF.out

set_option maxHeartbeats 1000000 in
theorem sync_dead (h : DiskRep w S a mb F s) (n : ByteArray) (hn : n.size ≤ maxLen) (hd : s.dead = false) {x : Fl} (hx : fndK Fl.key n.data.toList F = some x) (hfu : s.fuse = 0) :
    Calls Tryz.prog 59 #[.pointer (some ⟨a, 0, none⟩), .string n] w (OpPost w S a ({ s with dead := true }, 7)) := by
  have HI := hid (find_is w h n hn _ (need_ok h hd hx).1)
  have HS := hid (spend_dead h hfu)
  clear h hd hx hfu
  generalize ({ s with dead := true } : Dk) = sd at *
  go_enter Tryz.func59, Tryz.ntmps59
  go_wp2_with (first
    | (go_at_call 88; (with_reducible refine HI.out.mono ?_); rintro e w1 ⟨rfl, rfl⟩)
    | (go_at_call 86; (with_reducible refine HS.out.mono ?_); rintro e w2 ⟨rfl, hP⟩; have HP := hid hP; clear hP))
  go_ret
  exact HP.out

def SyncTail (w : World) (S : Nat → Prop) (a : Nat) (r : Dk × Int) (x : Fl) (e : Ending) (w2 : World) : Prop :=
  e = .returned (.int .i64 0) ∧ ∃ ao cap, w2.cell? ⟨x.g, 0, none⟩ = some (.slice ao x.data.length cap) ∧ w2.cell? ⟨x.g, 1, none⟩ = some (.int .i64 x.synced) ∧ w2.frozen? ⟨x.g, 1, none⟩ = false ∧ Hid (OpPost w S a r (.returned (.int .i64 0)) (w2.setCell ⟨x.g, 1, none⟩ (.int .i64 x.data.length)))
set_option maxHeartbeats 1000000 in
theorem sync_ok (h : DiskRep w S a mb F s) (n : ByteArray) (hn : n.size ≤ maxLen) (hd : s.dead = false) {x : Fl} (hx : fndK Fl.key n.data.toList F = some x) (hfu : s.fuse ≠ 0) :
    Calls Tryz.prog 59 #[.pointer (some ⟨a, 0, none⟩), .string n] w (OpPost w S a ({ ticked s with L := updK AF.key n.data.toList syncF s.L }, 0)) := by
  have HI := hid (find_is w h n hn _ (need_ok h hd hx).1)
  have hsp : Calls Tryz.prog 86 #[.pointer (some ⟨a, 0, none⟩)] w (SyncTail w S a ({ ticked s with L := updK AF.key n.data.toList syncF s.L }, 0) x) := by
    refine (spend_hid w h 0 (if_neg hfu) _ (if_neg hfu)).mono ?_
    rintro e w2 ⟨rfl, hD, hc, hz⟩
    have hf := hD.files x (fndK_some hx).1
    obtain ⟨ao, cap, hv⟩ := hf.slice
    have hb := hf.blk
    rw [hv] at hb
    have hc' : Chg S w w2 := hc.mono (fun b e => by rw [e]; exact h.inA)
    have hset := hb.set 1 (.int .i64 x.data.length)
    have ht := cells_tail hD hx syncF (fun _ => rfl) hv (Nat.le_refl _) (m := x.data.length) (by simp [syncF, Fl.abs]) (Ok_upd hD.ok 0 (fun _ => rfl) (fun f hf => Nat.le_refl _) (fun f => Nat.le_refl _) (by have := hD.ok.room; omega)) _ (by simpa using hset) (Chg.setCell w2 ⟨x.g, 1, none⟩ _)
    obtain ⟨⟨mb', F', h1⟩, h2⟩ := ht
    exact ⟨rfl, ao, cap, by rw [hb.cell 0]; rfl, by rw [hb.cell 1]; rfl, hb.frozen 1, rfl, ⟨mb', F', h1.after (fun b hb => .inl hb) h.lt hc'.size h2.size⟩, hc'.trans h2 (fun b hb => .inl hb)⟩
  have HS := hid hsp
  have hlen : x.data.length ≤ 10000000 := by
    have : x.abs ∈ s.L := by rw [h.abs]; exact List.mem_map.2 ⟨x, (fndK_some hx).1, rfl⟩
    have h1 := sz_mem this
    have := h.ok.room
    have := h.ok.most
    have h2 : x.abs.data.length = x.data.length := rfl
    omega
  clear hsp h hd hx hfu
  generalize ({ ticked s with L := updK AF.key n.data.toList syncF s.L } : Dk) = sd at *
  go_enter Tryz.func59, Tryz.ntmps59
  go_wp2_with (first
    | (go_at_call 88; (with_reducible refine HI.out.mono ?_); rintro e w1 ⟨rfl, rfl⟩)
    | (go_at_call 86; (with_reducible refine HS.out.mono ?_); rintro e w2 ⟨rfl, ao, cap, d0, d1, d2, HP⟩))
  go_ret
  exact HP.out

/-- SYNC. -/
theorem sync_any (h : DiskIs w S a s) (n : ByteArray) (hn : n.size ≤ maxLen) :
    Calls Tryz.prog 59 #[.pointer (some ⟨a, 0, none⟩), .string n] w (OpPost w S a (syn s n.data.toList)) := by
  obtain ⟨mb, F, h⟩ := h
  cases hd : s.dead with
  | true => exact sync_fail h n hn (.inl hd)
  | false =>
    cases hx : fndK Fl.key n.data.toList F with
    | none => exact sync_fail h n hn (.inr hx)
    | some x =>
      by_cases hfu : s.fuse = 0
      · have : syn s n.data.toList = ({ s with dead := true }, 7) := by unfold syn; rw [(need_ok h hd hx).2, spends_dead hfu]
        rw [this]
        exact sync_dead h n hn hd hx hfu
      · have : syn s n.data.toList = ({ ticked s with L := updK AF.key n.data.toList syncF s.L }, 0) := by unfold syn; rw [(need_ok h hd hx).2, spends_ok hfu]; rfl
        rw [this]
        exact sync_ok h n hn hd hx hfu

theorem file_len (h : DiskRep w S a mb F s) {n : List UInt8} {x : Fl} (hx : fndK Fl.key n F = some x) : x.data.length ≤ 10000000 ∧ x.synced ≤ x.data.length := by
  have hm : x.abs ∈ s.L := by rw [h.abs]; exact List.mem_map.2 ⟨x, (fndK_some hx).1, rfl⟩
  have h1 := sz_mem hm
  have := h.ok.room
  have := h.ok.most
  have h2 : x.abs.data.length = x.data.length := rfl
  exact ⟨by omega, h.ok.sync _ hm⟩
def TruncTail (w : World) (S : Nat → Prop) (a : Nat) (r : Dk × Int) (x : Fl) (k : Nat) (e : Ending) (w2 : World) : Prop :=
  e = .returned (.int .i64 0) ∧ ∃ ao cap, w2.cell? ⟨x.g, 0, none⟩ = some (.slice ao x.data.length cap) ∧ w2.frozen? ⟨x.g, 0, none⟩ = false ∧ (∀ v, (w2.setCell ⟨x.g, 0, none⟩ v).cell? ⟨x.g, 1, none⟩ = some (.int .i64 x.synced)) ∧ (∀ v, (w2.setCell ⟨x.g, 0, none⟩ v).frozen? ⟨x.g, 1, none⟩ = false) ∧
    (∀ wx : World, (Instr.slice 33 (.slice ao x.data.length cap) none (some (.int .i64 (k : Int))) none).run Tryz.prog wx = .ok (.slice ao k cap) wx) ∧
    Hid (OpPost w S a r (.returned (.int .i64 0)) ((w2.setCell ⟨x.g, 0, none⟩ (.slice ao k cap)).setCell ⟨x.g, 1, none⟩ (.int .i64 (min (x.synced : Int) (k : Int)))))
theorem run_slice_to (wx : World) (ao : Option Addr) (L cap k : Nat) (hk : k ≤ cap) (hao : ao = none → cap = 0) : (Instr.slice 33 (.slice ao L cap) none (some (.int .i64 (k : Int))) none).run Tryz.prog wx = .ok (.slice ao k cap) wx := by
  cases ao with
  | none =>
    obtain rfl := hao rfl
    obtain rfl : k = 0 := by omega
    simp [go_sem, Instr.slice, run_underlying Tryz.underlying33]
  | some q =>
    simp [go_sem, Instr.slice, run_underlying Tryz.underlying33, hk]
end
end Go.Proofs.YtbccikefccdekaaGreatDoor


/-
  LAYER 2 (disk): Delete, Rename, Fuse.
-/
namespace Go.Proofs.YtbccikefccdekaaGreatDoor
open Go.RowKit Go.Maps
set_option linter.unusedVariables false
set_option maxRecDepth 100000

section
variable {w w' : World} {S : Nat → Prop} {a mb : Nat} {F : List Fl} {s : Dk}

set_option maxHeartbeats 1000000 in
theorem dele_fail (h : DiskRep w S a mb F s) (n : ByteArray) (hn : n.size ≤ maxLen) (hx : s.dead = true ∨ fndK Fl.key n.data.toList F = none) :
    Calls Tryz.prog 63 #[.pointer (some ⟨a, 0, none⟩), .string n] w (OpPost w S a (dele s n.data.toList)) := by
  obtain ⟨k, hk, hv, hneed⟩ := need_fail h n hx
  have hr : dele s n.data.toList = (s, k) := hneed _
  rw [hr]
  have HF := hid (show OpPost w S a (s, k) (.returned (.int .i64 k)) w from OpPost.none h (Below.refl _ _) rfl rfl)
  have HI := hid (find_is w h n hn _ hv)
  clear hr hneed hv h hx
  rcases hk with rfl | rfl
  all_goals
    go_enter Tryz.func63, Tryz.ntmps63
    go_wp2_with (go_at_call 88; (with_reducible refine HI.out.mono ?_); rintro e w1 ⟨rfl, rfl⟩)
    go_ret
    exact HF.out

set_option maxHeartbeats 1000000 in
theorem dele_dead (h : DiskRep w S a mb F s) (n : ByteArray) (hn : n.size ≤ maxLen) (hd : s.dead = false) {x : Fl} (hx : fndK Fl.key n.data.toList F = some x) (hfu : s.fuse = 0) :
    Calls Tryz.prog 63 #[.pointer (some ⟨a, 0, none⟩), .string n] w (OpPost w S a ({ s with dead := true }, 7)) := by
  have HI := hid (find_is w h n hn _ (need_ok h hd hx).1)
  have HS := hid (spend_dead h hfu)
  clear h hd hx hfu
  generalize ({ s with dead := true } : Dk) = sd at *
  go_enter Tryz.func63, Tryz.ntmps63
  go_wp2_with (first
    | (go_at_call 88; (with_reducible refine HI.out.mono ?_); rintro e w1 ⟨rfl, rfl⟩)
    | (go_at_call 86; (with_reducible refine HS.out.mono ?_); rintro e w2 ⟨rfl, hP⟩; have HP := hid hP; clear hP))
  go_ret
  exact HP.out

def DelTail (w : World) (S : Nat → Prop) (a mb : Nat) (F : List Fl) (r : Dk × Int) (n : ByteArray) (e : Ending) (w2 : World) : Prop :=
  e = .returned (.int .i64 0) ∧ w2.cell? ⟨a, 1, none⟩ = some (.map (some mb)) ∧ w2.ownsMap Tryz.prog 9 ptrElem mb F.length (.map (entOf F)) ∧
    Hid (∀ w3, w3.ownsMap Tryz.prog 9 ptrElem mb F.length (DataW.del (.map (entOf F)) (.string n.data.toList)) → w2.mapTurned w3 mb → OpPost w S a r (.returned (.int .i64 0)) w3)
set_option maxHeartbeats 1000000 in
theorem dele_ok (h : DiskRep w S a mb F s) (n : ByteArray) (hn : n.size ≤ maxLen) (hd : s.dead = false) {x : Fl} (hx : fndK Fl.key n.data.toList F = some x) (hfu : s.fuse ≠ 0) :
    Calls Tryz.prog 63 #[.pointer (some ⟨a, 0, none⟩), .string n] w (OpPost w S a ({ ticked s with L := delK AF.key n.data.toList s.L }, 0)) := by
  have HI := hid (find_is w h n hn _ (need_ok h hd hx).1)
  have hsp : Calls Tryz.prog 86 #[.pointer (some ⟨a, 0, none⟩)] w (DelTail w S a mb F ({ ticked s with L := delK AF.key n.data.toList s.L }, 0) n) := by
    refine (spend_hid w h 0 (if_neg hfu) _ (if_neg hfu)).mono ?_
    rintro e w2 ⟨rfl, hD, hc, hz⟩
    have hc' : Chg S w w2 := hc.mono (fun b e => by rw [e]; exact h.inA)
    obtain ⟨left, hw, _⟩ := hD.head
    refine ⟨rfl, by rw [hw.cell 1]; rfl, hD.map, hid (fun w3 hm ht => ?_)⟩
    have hcm := mapTurned_chg ht
    have hD3 := hD.del n.data.toList hm hcm
    have hc3 : Chg S w2 w3 := hcm.mono (fun b e => by rw [e]; exact hD.inM)
    exact ⟨rfl, ⟨mb, _, hD3.widen grow_mono (grow_lt h.lt (by have := hc'.size; have := hc3.size; omega))⟩, hc'.trans hc3 (fun b hb => .inl hb)⟩
  have HS := hid hsp
  have hkey := keyStr n hn
  clear hsp h hd hx hfu
  generalize ({ ticked s with L := delK AF.key n.data.toList s.L } : Dk) = sd at *
  go_enter Tryz.func63, Tryz.ntmps63
  go_wp2_with (first
    | (go_at_call 88; (with_reducible refine HI.out.mono ?_); rintro e w1 ⟨rfl, rfl⟩)
    | (go_at_call 86; (with_reducible refine HS.out.mono ?_); rintro e w2 ⟨rfl, d0, hown, HP⟩)
    | (at_delete; refine wpList_delete_own _ rfl _ _ 69 9 rfl 73 keyedStr Tryz.underlying69 ptrElem mb F.length _ rfl hown _ _ rfl hkey ?_; intro w3 hm ht; have HQ := hid (HP.out w3 hm ht); clear hm ht))
  go_ret
  exact HQ.out

/-- DELETE. -/
theorem dele_any (h : DiskIs w S a s) (n : ByteArray) (hn : n.size ≤ maxLen) :
    Calls Tryz.prog 63 #[.pointer (some ⟨a, 0, none⟩), .string n] w (OpPost w S a (dele s n.data.toList)) := by
  obtain ⟨mb, F, h⟩ := h
  cases hd : s.dead with
  | true => exact dele_fail h n hn (.inl hd)
  | false =>
    cases hx : fndK Fl.key n.data.toList F with
    | none => exact dele_fail h n hn (.inr hx)
    | some x =>
      by_cases hfu : s.fuse = 0
      · have : dele s n.data.toList = ({ s with dead := true }, 7) := by unfold dele; rw [(need_ok h hd hx).2, spends_dead hfu]
        rw [this]
        exact dele_dead h n hn hd hx hfu
      · have : dele s n.data.toList = ({ ticked s with L := delK AF.key n.data.toList s.L }, 0) := by unfold dele; rw [(need_ok h hd hx).2, spends_ok hfu]; rfl
        rw [this]
        exact dele_ok h n hn hd hx hfu

theorem name_is (t : ByteArray) (ht : t.size ≤ maxLen) (b : Bool) (hb : isName t.data.toList = b) (w : World) : Calls Tryz.prog 84 #[.string t] w fun e w' => e = .returned (.bool b) ∧ w = w' := by
  subst hb; exact name_any t w ht
def FusePost (w : World) (S : Nat → Prop) (a : Nat) (s : Dk) (e : Ending) (w' : World) : Prop := e = .returned (.tuple #[]) ∧ DiskIs w' (grow S w w') a s ∧ Chg S w w'
set_option maxHeartbeats 1000000 in
theorem fuse_any (h : DiskIs w S a s) (k : Int) (hk : k ≤ 9223372036854775807) :
    Calls Tryz.prog 17 #[.pointer (some ⟨a, 0, none⟩), .int .i64 k] w (FusePost w S a (setFuse s k)) := by
  obtain ⟨mb, F, h⟩ := h
  obtain ⟨left, hw, _⟩ := h.head
  have h1 := hw.set 2 (.bool (decide (k ≥ 0)))
  have h2 := h1.set 3 (.int .i64 k)
  have d2 := hw.cell 2
  have f2 := hw.frozen 2
  have d3 := h1.cell 3
  have f3 := h1.frozen 3
  simp at d2 d3 f2 f3
  have hc : Chg (fun b => b = a) w ((w.setCell ⟨a, 2, none⟩ (.bool (decide (k ≥ 0)))).setCell ⟨a, 3, none⟩ (.int .i64 k)) := (Chg.setCell w ⟨a, 2, none⟩ _).trans (Chg.setCell _ ⟨a, 3, none⟩ _) (fun b hb => .inl hb)
  have hD := h.turn (w' := (w.setCell ⟨a, 2, none⟩ (.bool (decide (k ≥ 0)))).setCell ⟨a, 3, none⟩ (.int .i64 k)) (fu := max k (-1)) (left := k) (dd := s.dead) (by
    have e : decide (0 ≤ max k (-1)) = decide (k ≥ 0) := by rw [Bool.eq_iff_iff]; simp; omega
    rw [e]; simpa using h2) (fun h0 => by omega) hc (by omega)
  have hc' : Chg S w ((w.setCell ⟨a, 2, none⟩ (.bool (decide (k ≥ 0)))).setCell ⟨a, 3, none⟩ (.int .i64 k)) := hc.mono (fun b e => by rw [e]; exact h.inA)
  have hfin : FusePost w S a (setFuse s k) (.returned (.tuple #[])) ((w.setCell ⟨a, 2, none⟩ (.bool (decide (k ≥ 0)))).setCell ⟨a, 3, none⟩ (.int .i64 k)) :=
    ⟨rfl, ⟨mb, F, hD.widen grow_mono (grow_lt h.lt hc'.size)⟩, hc'⟩
  have HF := hid hfin
  clear hfin hc' hD hc h1 h2 hw h
  generalize hq : decide (k ≥ 0) = q at *
  generalize setFuse s k = s' at *
  go_enter Tryz.func17, Tryz.ntmps17
  go_wp2
  go_end0
  exact HF.out
end
end Go.Proofs.YtbccikefccdekaaGreatDoor

/-
  LAYER 2 (disk): a crash of one file.
-/
namespace Go.Proofs.YtbccikefccdekaaGreatDoor
open Go.RowKit Go.Maps
set_option linter.unusedVariables false
set_option maxRecDepth 100000

theorem getD_at {xs : List Int} {j : Nat} (h : j < xs.length) : xs[j]? = some (xs.getD j 0) := by simp [List.getD, h]
theorem ret_int {a b : Int} (h : a = b) : Ending.returned (.int .i64 a) = .returned (.int .i64 b) := by rw [h]
theorem at_any (v : Value) (xs : List Int) (w : World) {B : Nat} (hv : IntsAt w B v xs) (hx : xs.length ≤ 1000) (k : Nat) (hk : k ≤ 1000) :
    Calls Tryz.prog 38 #[v, .int .i64 (k : Int)] w fun e w' => e = .returned (.int .i64 (xs.getD k 0)) ∧ w = w' := by
  obtain ⟨a, cap, rfl, hc⟩ := hv
  by_cases h : k < xs.length
  · have hne : xs ≠ [] := fun e => by rw [e] at h; simp at h
    obtain ⟨sb, so, rfl, _, hcell⟩ := hc hne
    have c0 := hcell k _ (getD_at h)
    have hq : decide (k < xs.length) = true := by simpa using h
    have h1 : (k : Int) < (xs.length : Int) := by omega
    generalize xs.getD k 0 = z at *
    clear hcell hc hne
    go_enter Tryz.func38, Tryz.ntmps38
    go_wp2
    go_ret
    exact ⟨rfl, rfl⟩
  · have hz : xs.getD k 0 = 0 := by simp [List.getD, List.getElem?_eq_none (Nat.le_of_not_lt h)]
    have hq : decide (k < xs.length) = false := by simpa using h
    rw [hz]
    clear hc hz
    go_enter Tryz.func38, Tryz.ntmps38
    go_wp2
    go_ret
    exact ⟨rfl, rfl⟩

theorem hasTail_any {w : World} {x : Fl} (h : FileOk w x) (hl : x.data.length ≤ 10000000) (hs : x.synced ≤ x.data.length) :
    Calls Tryz.prog 36 #[.pointer (some ⟨x.g, 0, none⟩)] w fun e w' => e = .returned (.bool (decide (x.synced < x.data.length))) ∧ Below w.heap.size w w' := by
  obtain ⟨ao, cap, hv⟩ := h.slice
  have hb := h.blk
  rw [hv] at hb
  have c0 := hb.cell 0
  have c1 := hb.cell 1
  simp at c0 c1
  have hq : decide ((x.synced : Int) < (x.data.length : Int)) = decide (x.synced < x.data.length) := by rw [Bool.eq_iff_iff]; simp
  clear hb hv h
  generalize x.data.length = L at *
  generalize x.synced = M at *
  go_enter Tryz.func36, Tryz.ntmps36
  go_wp2
  go_quiet (fail)
  go_wp2
  go_ret
  exact ⟨by first | rfl | (rw [← hq]), below_drew (Below.refl _ _) _⟩

theorem noise_wrap (n : Int) : IntKind.u8.wrap n = ((noiseByte n).toNat : Int) := by
  unfold noiseByte
  simp only [IntKind.wrap, IntKind.bits, IntKind.signed]
  rw [UInt8.toNat_ofNat']
  simp
  omega
theorem byte_xor (c : UInt8) (n : Int) : bits .xor .u8 (c.toNat : Int) (IntKind.u8.wrap n) = ((c ^^^ noiseByte n).toNat : Int) := by
  rw [noise_wrap]
  generalize noiseByte n = d
  have h1 := UInt8.toNat_lt c
  have h2 := UInt8.toNat_lt d
  rw [UInt8.toNat_xor]
  exact u8_xor_nat _ _ h1 h2

section
variable {w w' : World} {S : Nat → Prop} {a mb : Nat} {F : List Fl} {s : Dk}

theorem crF_name' (k z : Int) (f : AF) : (crF f k z).name = f.name := rfl
theorem Ok_crF (h : s.Ok) (n : List UInt8) (k z : Int) : ({ s with L := updK AF.key n (fun f => crF f k z) s.L } : Dk).Ok := by
  refine Ok_upd h 0 (fun _ => rfl) (fun f hf => ?_) (fun f => ?_) (by have := h.room; omega)
  · have := crF_len f k z hf; omega
  · unfold crF
    simp only
    split <;> simp <;> omega

def setB (i : Nat) (b : UInt8) (f : AF) : AF := { f with data := f.data.set i b }
def cutB (k : Nat) (f : AF) : AF := { f with data := f.data.take k, synced := (f.data.take k).length }
/-- What a crash of one file leaves. -/
def CrashTail (w : World) (S : Nat → Prop) (a : Nat) (s : Dk) (e : Ending) (w' : World) : Prop := e = .returned (.tuple #[]) ∧ DiskIs w' (grow S w w') a s ∧ Chg S w w'
theorem CrashTail.drew {e : Ending} (h : CrashTail w S a s e w') : CrashTail w S a s e w'.drew :=
  ⟨h.1, h.2.1.same (Nat.le_refl _) (fun _ _ => rfl), h.2.2.drewN 1⟩

theorem row_cap {w : World} {x : Fl} (hf : FileOk w x) {ao : Option Addr} {cap : Nat} (hv : x.v = .slice ao x.data.length cap) : x.data.length ≤ cap ∧ (ao = none → cap = 0) := by
  rcases hf.row.2 with ⟨h2, h0⟩ | ⟨g, cap', cur, h2, _, _, hnc, _⟩
  · rw [hv] at h2; simp at h2; exact ⟨by omega, fun _ => h2.2.2⟩
  · rw [hv] at h2; simp at h2; rw [h2.2]; exact ⟨hnc, fun e => by rw [e] at h2; simp at h2⟩
theorem updK_congr {n : List UInt8} {H H' : AF → AF} {L : List AF} (h : ∀ f ∈ L, AF.key f = n → H f = H' f) : updK AF.key n H L = updK AF.key n H' L := by
  unfold updK
  apply List.map_congr_left
  intro f hf
  by_cases hk : AF.key f = n
  · rw [if_pos hk, if_pos hk, h f hf hk]
  · rw [if_neg hk, if_neg hk]
theorem updK_twice {n : List UInt8} {H H' : AF → AF} (hH : ∀ f, (H f).name = f.name) (L : List AF) : updK AF.key n H' (updK AF.key n H L) = updK AF.key n (fun f => H' (H f)) L := by
  unfold updK
  rw [List.map_map]
  apply List.map_congr_left
  intro f _
  simp only [Function.comp_apply]
  by_cases hk : AF.key f = n
  · rw [if_pos hk, if_pos hk, if_pos (show AF.key (H f) = n from (hH f).trans hk)]
  · rw [if_neg hk, if_neg hk, if_neg hk]
theorem DiskRep.only (h : DiskRep w S a mb F s) {n : List UInt8} {x : Fl} (hx : fndK Fl.key n F = some x) {f : AF} (hf : f ∈ s.L) (hk : AF.key f = n) : f = x.abs := by
  have hA : fndK AF.key n s.L = some x.abs := by rw [h.fnd, hx]; rfl
  have h1 := fndK_some hA
  exact rise_inj h.ok.rise hf h1.1 (hk.trans h1.2.symm)

set_option maxHeartbeats 2000000 in
theorem fileCrash_none (h : DiskRep w S a mb F s) {n : List UInt8} {x : Fl} (hx : fndK Fl.key n F = some x) (k z : Int) (hk : min (max k 0) ((x.data.length : Int) - (x.synced : Int)) = 0) (hk0 : -9223372036854775808 ≤ k ∧ k ≤ 9223372036854775807) :
    Calls Tryz.prog 37 #[.pointer (some ⟨x.g, 0, none⟩), .int .i64 k, .int .i64 z] w (CrashTail w S a { s with L := updK AF.key n (fun f => crF f k z) s.L }) := by
  obtain ⟨hl1, hl2⟩ := file_len h hx
  have hf := h.files x (fndK_some hx).1
  obtain ⟨ao, cap, hv⟩ := hf.slice
  have hcap := row_cap hf hv
  have hb : own w x.g #[.slice ao x.data.length cap, .int .i64 x.synced] 99 := by have := hf.blk; rw [hv] at this; exact this
  have hcr : crF x.abs k z = ⟨x.name, x.data.take x.synced, x.synced⟩ := by
    unfold crF
    have : min (max k 0).toNat (x.abs.data.length - x.abs.synced) = 0 := by
      show min (max k 0).toNat (x.data.length - x.synced) = 0
      omega
    rw [this]
    simp [Fl.abs]
  have hb1 := hb.set 0 (.slice ao x.synced cap)
  have hset := hb1.set 1 (.int .i64 (x.synced : Int))
  have ht := cells_tail h hx (fun f => crF f k z) (fun _ => rfl) hv hl2 hcr (Ok_crF h.ok n k z) _ (by simpa using hset) ((Chg.setCell w ⟨x.g, 0, none⟩ _).trans (Chg.setCell _ ⟨x.g, 1, none⟩ _) (fun b hb => .inl hb))
  have HF := hid (CrashTail.drew ⟨rfl, ht⟩)
  have c0 := hb.cell 0
  have c1 := hb.cell 1
  have f0 := hb.frozen 0
  have d1 := hb1.cell 1
  have f1 := hb1.frozen 1
  simp at c0 c1 d1
  have hsl := fun wx => run_slice_to wx ao x.data.length cap x.synced (by omega) hcap.2
  have hle : (x.synced : Int) ≤ (x.data.length : Int) := by omega
  clear ht hset hb1 hcr hb hv hcap hf h hx hl2
  generalize ({ s with L := updK AF.key n (fun f => crF f k z) s.L } : Dk) = sd at *
  generalize x.data.length = L at *
  generalize x.synced = M at *
  have hW : IntKind.i64.wrap ((L : Int) - (M : Int)) = (L : Int) - (M : Int) := IntWalk.i64_in _ (by omega)
  go_enter Tryz.func37, Tryz.ntmps37
  go_wp2
  go_region
  all_goals
    go_wp2
    go_end0
    exact HF.out

set_option maxHeartbeats 2000000 in
theorem fileCrash_some (h : DiskRep w S a mb F s) {n : List UInt8} {x : Fl} (hx : fndK Fl.key n F = some x) (k z : Int) (i : Nat) (K : Int) (hk : min (max k 0) ((x.data.length : Int) - (x.synced : Int)) = K) (hK : 0 < K) (hi : (x.synced : Int) + K = (i : Int) + 1) (hk0 : -9223372036854775808 ≤ k ∧ k ≤ 9223372036854775807) :
    Calls Tryz.prog 37 #[.pointer (some ⟨x.g, 0, none⟩), .int .i64 k, .int .i64 z] w (CrashTail w S a { s with L := updK AF.key n (fun f => crF f k z) s.L }) := by
  obtain ⟨hl1, hl2⟩ := file_len h hx
  have hxm := (fndK_some hx).1
  have hf := h.files x hxm
  have hiL : i < x.data.length := by omega
  have hne : x.data ≠ [] := fun e => by rw [e] at hiL; simp at hiL
  obtain ⟨g, cap, hv, _, hglt, hLc, hcm, hcell, hfz⟩ := hf.row.shape hne
  have hb : own w x.g #[.slice (some ⟨g, 0, none⟩) x.data.length cap, .int .i64 x.synced] 99 := by have := hf.blk; rw [hv] at this; exact this
  have hgx : g ≠ x.g := fun e => hf.apart (by rw [hv, e]; rfl)
  -- the byte is turned
  have hD1 : ∃ F', DiskRep (w.setCell ⟨g, i, none⟩ (.int .u8 ((x.data[i] ^^^ noiseByte z).toNat : Int))) (grow S w (w.setCell ⟨g, i, none⟩ (.int .u8 ((x.data[i] ^^^ noiseByte z).toNat : Int)))) a mb F' { s with L := updK AF.key n (setB i (x.data[i] ^^^ noiseByte z)) s.L } ∧ fndK Fl.key n F' = some { x with data := x.data.set i (x.data[i] ^^^ noiseByte z) } := by
    refine h.set (x' := { x with data := x.data.set i (x.data[i] ^^^ noiseByte z) }) hx rfl rfl rfl (fun _ => rfl) ⟨?_, ?_, hf.apart⟩ ((Chg.setCell w ⟨g, i, none⟩ _).mono (fun b e => by rw [e]; simp [Fl.foot, hv, Value.ownBlock])) (fun b hb => .inl hb) ?_
    · exact hf.blk.other (fun e => hgx e.symm) _
    · have h1 := hf.row
      rw [hv] at h1
      have := h1.set i hiL (x.data[i] ^^^ noiseByte z) _ rfl
      show Bytes _ 0 x.v (x.data.set i (x.data[i] ^^^ noiseByte z))
      rw [hv]; exact this
    · exact Ok_upd h.ok 0 (fun _ => rfl) (fun f hf => by simpa [setB] using hf) (fun f => by simp [setB]) (by have := h.ok.room; omega)
  obtain ⟨F1, hD1, hx1⟩ := hD1
  have hcB := Chg.setCell w ⟨g, i, none⟩ (.int .u8 ((x.data[i] ^^^ noiseByte z).toNat : Int))
  have hb1 : own (w.setCell ⟨g, i, none⟩ (.int .u8 ((x.data[i] ^^^ noiseByte z).toNat : Int))) x.g #[.slice (some ⟨g, 0, none⟩) x.data.length cap, .int .i64 x.synced] 99 := hb.other (fun e => hgx e.symm) _
  have hx5 : x.data[i]? = some x.data[i] := List.getElem?_eq_getElem hiL
  have cB := hcell i _ hx5
  have fB := hfz i
  have hcr : crF x.abs k z = ⟨x.name, (x.data.set i (x.data[i] ^^^ noiseByte z)).take (i + 1), i + 1⟩ := by
    unfold crF
    have : min (max k 0).toNat (x.abs.data.length - x.abs.synced) = i + 1 - x.synced := by
      show min (max k 0).toNat (x.data.length - x.synced) = _
      omega
    rw [this]
    have h2 : x.abs.synced + (i + 1 - x.synced) = i + 1 := by show x.synced + _ = _; omega
    simp only [h2]
    rw [if_neg (by omega)]
    have h3 : x.abs.data.getD i 0 = x.data[i] := by show x.data.getD i 0 = _; simp [List.getD, hx5]
    simp only [Nat.add_sub_cancel, h3]
    rw [List.take_set]
    rfl
  have hwxor := byte_xor x.data[i] z
  rw [show IntKind.u8.wrap z = z % 256 by simp [IntKind.wrap, IntKind.bits, IntKind.signed]] at hwxor
  have hL : updK AF.key n (cutB (i + 1)) (updK AF.key n (setB i (x.data[i] ^^^ noiseByte z)) s.L) = updK AF.key n (fun f => crF f k z) s.L := by
    rw [updK_twice (H := setB i (x.data[i] ^^^ noiseByte z)) (fun _ => rfl)]
    refine updK_congr (fun f hf hkey => ?_)
    obtain rfl := h.only hx hf hkey
    rw [hcr]
    simp only [cutB, setB, Fl.abs, AF.mk.injEq, true_and]
    rw [List.length_take, List.length_set]; omega
  generalize (x.data[i] ^^^ noiseByte z) = nb at *
  generalize x.data[i] = ob at *
  have hb2 := hb1.set 0 (.slice (some ⟨g, 0, none⟩) (i + 1) cap)
  have hset := hb2.set 1 (.int .i64 ((i + 1 : Nat) : Int))
  have ht := cells_tail (w3 := ((w.setCell ⟨g, i, none⟩ (.int .u8 (nb.toNat : Int))).setCell ⟨x.g, 0, none⟩ (.slice (some ⟨g, 0, none⟩) (i + 1) cap)).setCell ⟨x.g, 1, none⟩ (.int .i64 ((i + 1 : Nat) : Int))) hD1 hx1 (cutB (i + 1)) (fun _ => rfl) (k := i + 1) (m := i + 1) (ao := some ⟨g, 0, none⟩) (cap := cap) (by simp [hv]) (by simp; omega) (by
      simp only [cutB, Fl.abs, AF.mk.injEq, true_and]
      rw [List.length_take, List.length_set]; omega) (by
    exact Ok_upd hD1.ok 0 (fun _ => rfl) (fun f hf => by simp [cutB]) (fun f => by simp [cutB]; omega) (by have := hD1.ok.room; omega)) (by simpa using hset) ((Chg.setCell _ ⟨x.g, 0, none⟩ _).trans (Chg.setCell _ ⟨x.g, 1, none⟩ _) (fun b hb => .inl hb))
  have hS1 : Chg S w (w.setCell ⟨g, i, none⟩ (.int .u8 (nb.toNat : Int))) := hcB.mono (fun b e => by rw [e]; exact h.inS _ (by simp only [List.mem_cons, List.mem_flatMap]; exact .inr (.inr ⟨x, hxm, by simp [Fl.foot, hv, Value.ownBlock]⟩)))
  obtain ⟨⟨mb', F', h1⟩, h2⟩ := ht
  have h3 : DiskIs (((w.setCell ⟨g, i, none⟩ (.int .u8 (nb.toNat : Int))).setCell ⟨x.g, 0, none⟩ (.slice (some ⟨g, 0, none⟩) (i + 1) cap)).setCell ⟨x.g, 1, none⟩ (.int .i64 ((i + 1 : Nat) : Int))) (grow S w (((w.setCell ⟨g, i, none⟩ (.int .u8 (nb.toNat : Int))).setCell ⟨x.g, 0, none⟩ (.slice (some ⟨g, 0, none⟩) (i + 1) cap)).setCell ⟨x.g, 1, none⟩ (.int .i64 ((i + 1 : Nat) : Int)))) a { s with L := updK AF.key n (fun f => crF f k z) s.L } := by
    have h4 := h1.after (w := w) (S := S) (fun b hb => hb) h.lt hcB.size h2.size
    refine ⟨mb', F', ?_⟩
    have e : ({ s with L := updK AF.key n (fun f => crF f k z) s.L } : Dk) = { s with L := updK AF.key n (cutB (i + 1)) (updK AF.key n (setB i nb) s.L) } := by rw [hL]
    rw [e]; exact h4
  have HF := hid (CrashTail.drew ⟨rfl, h3, hS1.after (fun b hb => hb) h2⟩)
  have c0 := hb.cell 0
  have c1 := hb.cell 1
  have e0 := hb1.cell 0
  have f0 := hb1.frozen 0
  have d1 := hb2.cell 1
  have f1 := hb2.frozen 1
  simp at c0 c1 d1 e0
  have hsl := fun wx => run_slice_to wx (some ⟨g, 0, none⟩) x.data.length cap (i + 1) (by omega) (fun e => by cases e)
  have hle : (x.synced : Int) + K ≤ (x.data.length : Int) := by omega
  have hi0 : (i : Int) < (x.data.length : Int) := by omega
  have HI := hid hi
  clear h3 hS1 h1 h2 hset hb2 hb1 hcr hb hv hf h hx hl2 hL hx5 hfz hcell hne hx1 hD1 hcB hxm hi
  generalize ({ s with L := updK AF.key n (fun f => crF f k z) s.L } : Dk) = sd at *
  generalize x.data.length = L at *
  generalize x.synced = M at *
  have hi := HI.out
  have hWW : IntKind.i64.wrap ((i : Int) + 1) = (i : Int) + 1 := IntWalk.i64_in _ (by omega)
  have hW : IntKind.i64.wrap ((L : Int) - (M : Int)) = (L : Int) - (M : Int) := IntWalk.i64_in _ (by omega)
  go_enter Tryz.func37, Tryz.ntmps37
  go_wp2
  go_region
  all_goals
    go_wp2
    go_end0
    exact HF.out
end
end Go.Proofs.YtbccikefccdekaaGreatDoor

/-
  LAYER 2 (disk): Crash.
-/
namespace Go.Proofs.YtbccikefccdekaaGreatDoor
open Go.RowKit Go.Maps
set_option linter.unusedVariables false
set_option maxRecDepth 100000

theorem IntsAt.same {w w' : World} {B : Nat} {v : Value} {xs : List Int} (h : IntsAt w B v xs) (hs : ∀ b, b < B → w'.heap[b]? = w.heap[b]?) : IntsAt w' B v xs := by
  obtain ⟨a, cap, hv, hc⟩ := h
  refine ⟨a, cap, hv, fun hne => ?_⟩
  obtain ⟨sb, so, ha, hlt, hcell⟩ := hc hne
  exact ⟨sb, so, ha, hlt, fun j x hj => (World.cell?_of_block (w := w) (a := ⟨sb, so + j, none⟩) (hs sb hlt)).trans (hcell j x hj)⟩
/-- A slice of ints in blocks of T. -/
def IntsIn (w : World) (T : Nat → Prop) (v : Value) (xs : List Int) : Prop :=
  ∃ a cap, v = .slice a xs.length cap ∧ (xs ≠ [] → ∃ sb so, a = some ⟨sb, so, none⟩ ∧ T sb ∧ ∀ j x, xs[j]? = some x → w.cell? ⟨sb, so + j, none⟩ = some (.int .i64 x))
theorem IntsAt.isIn {w : World} {B : Nat} {v : Value} {xs : List Int} (h : IntsAt w B v xs) : IntsIn w (fun b => b < B) v xs := h
theorem IntsIn.same {w w' : World} {T : Nat → Prop} {v : Value} {xs : List Int} (h : IntsIn w T v xs) (hs : ∀ b, T b → w'.heap[b]? = w.heap[b]?) : IntsIn w' T v xs := by
  obtain ⟨a, cap, hv, hc⟩ := h
  refine ⟨a, cap, hv, fun hne => ?_⟩
  obtain ⟨sb, so, ha, hlt, hcell⟩ := hc hne
  exact ⟨sb, so, ha, hlt, fun j x hj => (World.cell?_of_block (w := w) (a := ⟨sb, so + j, none⟩) (hs sb hlt)).trans (hcell j x hj)⟩
theorem at_in (v : Value) (xs : List Int) (w : World) {T : Nat → Prop} (hv : IntsIn w T v xs) (hT : ∀ b, T b → b < w.heap.size) (hx : xs.length ≤ 1000) (k : Nat) (hk : k ≤ 1000) :
    Calls Tryz.prog 38 #[v, .int .i64 (k : Int)] w fun e w' => e = .returned (.int .i64 (xs.getD k 0)) ∧ w = w' := by
  refine at_any v xs w (B := w.heap.size) ?_ hx k hk
  obtain ⟨a, cap, hv, hc⟩ := hv
  refine ⟨a, cap, hv, fun hne => ?_⟩
  obtain ⟨sb, so, ha, hlt, hcell⟩ := hc hne
  exact ⟨sb, so, ha, hT sb hlt, hcell⟩
theorem names_cell {w : World} {B : Nat} {v : Value} {l : List (List UInt8)} (h : NamesAt w B v l) {j : Nat} (hj : j < l.length) : ∃ g cap, v = .slice (some ⟨g, 0, none⟩) l.length cap ∧ B ≤ g ∧ g < w.heap.size ∧ l.length ≤ cap ∧ w.cell? ⟨g, j, none⟩ = some (.string (mk l[j])) := by
  have hlt := World.ownsRow.lt h
  have hcs := fun g hg => World.ownsRow.cells h (g := g) hg
  rcases h.2 with ⟨_, hz⟩ | ⟨g, cap, cur, rfl, hB, hg, hnc, hcm, hcs', htake⟩
  · omega
  · refine ⟨g, cap, rfl, hB, (hlt g rfl).2, hnc, ?_⟩
    have := hcs g rfl j (.string (mk l[j])) (by simp [hj]; rfl)
    have hadd : (⟨g, 0, none⟩ : Addr).add j = ⟨g, j, none⟩ := by unfold Addr.add; split <;> simp_all
    rw [hadd] at this
    exact this
theorem names_slice {w : World} {B : Nat} {v : Value} {l : List (List UInt8)} (h : NamesAt w B v l) : ∃ ao cap, v = .slice ao l.length cap := by
  rcases h.2 with ⟨hv, hz⟩ | ⟨g, cap, cur, hv, _⟩
  · exact ⟨none, 0, by rw [hv, hz]⟩
  · exact ⟨_, _, hv⟩

section
variable {w w' : World} {S : Nat → Prop} {a mb : Nat} {F : List Fl} {s : Dk}
theorem look1_some (h : DiskRep w S a mb F s) {n : ByteArray} (hn : n.size ≤ maxLen) {x : Fl} (hx : fndK Fl.key n.data.toList F = some x) :
    (Instr.lookup 69 (.map (some mb)) (.string n) false).run Tryz.prog w = .ok (.pointer (some ⟨x.g, 0, none⟩)) w := by
  obtain ⟨v, ps, hrun, hv⟩ := h.map.lookup keyedStr Tryz.underlying69 (zeroPtr w) (zd := .nil) (zp := []) rfl (keyStr n hn)
  rw [atKey_ent, hx] at hv
  obtain rfl := ptrElem_inv hv
  exact hrun

theorem crL_nil (ks ns : List Int) : crL [] ks ns = [] := rfl
theorem crL_yes {f : AF} {r : List AF} {ks ns : List Int} {k : Nat} (h : f.synced < f.data.length) : crL (f :: r) (ks.drop k) (ns.drop k) = crF f (ks.getD k 0) (ns.getD k 0) :: crL r (ks.drop (k + 1)) (ns.drop (k + 1)) := by
  have e : ∀ l : List Int, (l.drop k).headD 0 = l.getD k 0 := fun l => by
    rw [List.headD_eq_head?_getD, List.head?_drop]; rfl
  have e2 : ∀ l : List Int, (l.drop k).tail = l.drop (k + 1) := fun l => List.tail_drop
  rw [crL, if_pos h, e, e, e2, e2]
theorem crL_no {f : AF} {r : List AF} {ks ns : List Int} (h : ¬ f.synced < f.data.length) : crL (f :: r) ks ns = f :: crL r ks ns := by
  rw [crL, if_neg h]
theorem updK_split {L A C : List AF} {f : AF} (e : L = A ++ f :: C) (hr : RiseK AF.key L) (H : AF → AF) : updK AF.key f.name H L = A ++ H f :: C := by
  subst e
  have hne : ∀ g ∈ A ++ C, AF.key g ≠ f.name := by
    intro g hg e
    have hp := hr
    unfold RiseK at hp
    rw [List.pairwise_append] at hp
    obtain ⟨_, h2, h3⟩ := hp
    rcases List.mem_append.1 hg with hg | hg
    · have := h3 g hg f (List.mem_cons_self ..)
      rw [e] at this
      exact blt_irrefl _ this
    · have := (List.pairwise_cons.1 h2).1 g hg
      rw [e] at this
      exact blt_irrefl _ this
  have key : ∀ l : List AF, (∀ g ∈ l, AF.key g ≠ f.name) → l.map (fun x => if AF.key x = f.name then H x else x) = l := by
    intro l hl
    conv => rhs; rw [← List.map_id l]
    apply List.map_congr_left
    intro g hg
    rw [if_neg (hl g hg)]; rfl
  unfold updK
  rw [List.map_append, List.map_cons, key _ (fun f hf => hne f (List.mem_append.2 (.inl hf))), key _ (fun f hf => hne f (List.mem_append.2 (.inr hf))), if_pos rfl]
theorem updK_set {L : List AF} (hr : RiseK AF.key L) {j : Nat} (hj : j < L.length) (H : AF → AF) : updK AF.key L[j].name H L = L.take j ++ H L[j] :: L.drop (j + 1) :=
  updK_split (by rw [← List.drop_eq_getElem_cons hj, List.take_append_drop]) hr H

theorem take_mid {α : Type} {A C : List α} {f : α} {j : Nat} (h : A.length = j) : (A ++ f :: C).take (j + 1) = A ++ [f] := by
  subst h
  rw [List.take_append, List.take_of_length_le (by omega), show A.length + 1 - A.length = 1 by omega]; rfl
theorem drop_mid {α : Type} {A C : List α} {f : α} {j : Nat} (h : A.length = j) : (A ++ f :: C).drop (j + 1) = C := by
  subst h
  simp
/-- A round of the loop: what it is at, and what comes of it. -/
structure RoundAt (w1 : World) (S : Nat → Prop) (a : Nat) (s : Dk) (ks ns : List Int) (j k : Nat) (L' : List AF) (wr : World) : Prop where
  is : DiskIs wr (grow S w1 wr) a { s with L := L' }
  chg : Chg S w1 wr
  eq : crL s.L ks ns = L'.take j ++ crL (L'.drop j) (ks.drop k) (ns.drop k)
  names : L'.map AF.name = s.L.map AF.name
  le : j ≤ s.L.length ∧ k ≤ j
theorem RoundAt.len {w1 wr : World} {ks ns : List Int} {j k : Nat} {L' : List AF} (h : RoundAt w1 S a s ks ns j k L' wr) : L'.length = s.L.length := by simpa using congrArg List.length h.names
theorem RoundAt.no {w1 wr wr' : World} {ks ns : List Int} {j k : Nat} {L' : List AF} (h : RoundAt w1 S a s ks ns j k L' wr) (hb : Below wr.heap.size wr wr') (hj : j < L'.length) (ht : ¬ L'[j].synced < L'[j].data.length) : RoundAt w1 S a s ks ns (j + 1) k L' wr' := by
  obtain ⟨mb, F, hD⟩ := h.is
  have hl := h.len
  have hc' := h.chg.trans (T := fun _ => False) (Chg.of_below hb) (fun _ e => e.elim)
  refine ⟨⟨mb, F, (hD.below hb).widen (fun b hb' => grow_grow h.chg.size hb.size b (.inl hb')) (fun b hb' => ?_)⟩, hc', ?_, h.names, by have := h.le; omega⟩
  · rcases hb' with hb' | hb'
    · have := hD.lt b (.inl hb'); have := hb.size; omega
    · exact hb'.2
  · rw [h.eq, List.drop_eq_getElem_cons hj, crL_no ht, show L'.take (j + 1) = L'.take j ++ [L'[j]] from List.take_succ_eq_append_getElem hj, List.append_assoc]; rfl
theorem RoundAt.yes {w1 wr wr' : World} {ks ns : List Int} {j k : Nat} {L' : List AF} (h : RoundAt w1 S a s ks ns j k L' wr) (hj : j < L'.length) (ht : L'[j].synced < L'[j].data.length) (hr : RiseK AF.key L')
    (hd : DiskIs wr' (grow S w1 wr') a { s with L := updK AF.key L'[j].name (fun f => crF f (ks.getD k 0) (ns.getD k 0)) L' }) (hc : Chg S w1 wr') :
    RoundAt w1 S a s ks ns (j + 1) (k + 1) (updK AF.key L'[j].name (fun f => crF f (ks.getD k 0) (ns.getD k 0)) L') wr' := by
  have hl := h.len
  have hlt : (L'.take j).length = j := by rw [List.length_take]; omega
  refine ⟨hd, hc, ?_, ?_, by have := h.le; omega⟩
  · rw [h.eq, List.drop_eq_getElem_cons hj, crL_yes ht, updK_set hr hj, take_mid hlt, drop_mid hlt]
    simp
  · rw [← h.names]
    unfold updK
    rw [List.map_map]
    apply List.map_congr_left
    intro f _
    simp only [Function.comp_apply]
    split <;> rfl

def LoopRel (w1 : World) (S : Nat → Prop) (a : Nat) (s : Dk) (ks ns : List Int) (u6 u13 : Value) (wr : World) : Prop :=
  ∃ (j k : Nat) (L' : List AF), u6 = .int .i64 k ∧ u13 = .int .i64 j ∧ RoundAt w1 S a s ks ns j k L' wr

set_option maxHeartbeats 4000000 in
theorem crash_in (h : DiskIs w S a s) {T : Nat → Prop} (hT : ∀ b, T b → b < w.heap.size ∧ ¬ S b) {kv nv : Value} {ks ns : List Int} (hkv : IntsIn w T kv ks) (hnv : IntsIn w T nv ns) (hkl : ks.length ≤ 1000) (hnl : ns.length ≤ 1000)
    (hk64 : ∀ n ∈ ks, -9223372036854775808 ≤ n ∧ n ≤ 9223372036854775807) :
    Calls Tryz.prog 20 #[.pointer (some ⟨a, 0, none⟩), kv, nv] w (CrashTail w S a (crash s ks ns)) := by
  obtain ⟨mb, F, h⟩ := h
  have HL := hid (list_any h)
  have hD := hid h
  have hlt := hid h.lt
  have hnm := hid h.ok.names
  have hmany := h.ok.many
  have HK := hid hkv
  have HN := hid hnv
  obtain ⟨ka, kc, rfl, _⟩ := hkv
  obtain ⟨na, nc, rfl, _⟩ := hnv
  clear h
  go_enter Tryz.func20, Tryz.ntmps20
  go_wp2_with (go_at_call 22; (with_reducible refine HL.out.mono ?_); rintro e w1 ⟨v, rfl, hv, hb1⟩; obtain ⟨ao, cap, rfl⟩ := names_slice hv; have HV := hid hv; clear hv)
  go_loopw [6, 13] (LoopRel w1 S a s ks ns) (fun _ i _ => s.L.length - (intOf i).toNat)
  case atStart =>
    exact ⟨0, 0, s.L, rfl, rfl, ⟨mb, F, (hD.out.below hb1).widen grow_mono (grow_lt (fun b hb => by have := hlt.out b hb; have := hb1.size; omega) (Nat.le_refl _))⟩, Chg.refl _ _, by simp, rfl, by omega⟩
  case round =>
    obtain ⟨j, k, L', rfl, rfl, hR⟩ := hrel
    have hlen := hR.len
    have hle := hR.le
    have hRR := hid hR
    obtain ⟨mb', F', hDr⟩ := hR.is
    have hRise : RiseK AF.key L' := hDr.ok.rise
    have hz1 := hR.chg.size
    have hbl1 : ∀ b, w.heap.size ≤ b → b < w1.heap.size → wr.heap[b]? = w1.heap[b]? := fun b h1 h2 => hR.chg.block b h2 (fun hS => by have := hlt.out b hS; omega)
    by_cases hj : j < L'.length
    · have hjn : j < (s.L.map AF.name).length := by simpa using (by omega : j < s.L.length)
      obtain ⟨g, cap', hve, hgB, hg1, hnc, hcell⟩ := names_cell HV.out hjn
      have hnames := hR.names
      have hnj : (s.L.map AF.name)[j] = L'[j].name := by
        have h1 : (L'.map AF.name)[j]'(by simpa using hj) = L'[j].name := by simp
        rw [← h1]
        congr 1
        exact hnames.symm
      rw [hnj] at hcell
      simp only [Value.slice.injEq] at hve
      obtain ⟨rfl, _, rfl⟩ := hve
      have hcw : wr.cell? ⟨g, j, none⟩ = some (.string (mk L'[j].name)) := (World.cell?_of_block (w := w1) (a := ⟨g, j, none⟩) (hbl1 g hgB hg1)).trans hcell
      -- the file
      have hfA : fndK AF.key L'[j].name L' = some L'[j] := fndK_of_mem hRise (List.getElem_mem hj)
      have hfx : ∃ x, fndK Fl.key L'[j].name F' = some x ∧ x.abs = L'[j] := by
        have := hDr.fnd L'[j].name
        rw [show fndK AF.key L'[j].name ({ s with L := L' } : Dk).L = some L'[j] from hfA] at this
        cases hq : fndK Fl.key L'[j].name F' with
        | none => rw [hq] at this; cases this
        | some x => rw [hq] at this; exact ⟨x, rfl, (Option.some.inj this).symm⟩
      obtain ⟨x, hx, hxa⟩ := hfx
      have hn24 : (mk L'[j].name).size ≤ maxLen := by
        have h1 := hDr.ok.names _ (List.getElem_mem hj)
        unfold isName at h1
        simp at h1
        rw [mk_size]; unfold maxLen; omega
      have hlk := look1_some hDr (n := mk L'[j].name) hn24 hx
      have hfl := file_len hDr hx
      have hTl := hasTail_any (hDr.files x (fndK_some hx).1) hfl.1 hfl.2
      have hsy : x.synced = L'[j].synced := by rw [← hxa]; rfl
      have hdl : x.data.length = L'[j].data.length := by rw [← hxa]; rfl
      obtain ⟨leftr, hwr, _⟩ := hDr.head
      have c1 := hwr.cell 1
      simp at c1
      have hj40 : j < s.L.length := by omega
      by_cases ht : L'[j].synced < L'[j].data.length
      · have hq : decide (x.synced < x.data.length) = true := by rw [hsy, hdl]; simpa using ht
        rw [hq] at hTl
        have HT := hid hTl
        have hsm : ∀ wx, Below wr.heap.size wr wx → ∀ b, T b → wx.heap[b]? = w.heap[b]? := fun wx hb b hTb => by
          have h1 := hT b hTb
          have h2 := hb1.block b h1.1
          have h3 := hR.chg.block b (by have := hb1.size; omega) h1.2
          rw [hb.block b (by have := hb1.size; omega), h3, h2]
        have hKI : ∀ wx, Below wr.heap.size wr wx → IntsIn wx T (.slice ka ks.length kc) ks := fun wx hb => HK.out.same (hsm wx hb)
        have hNI : ∀ wx, Below wr.heap.size wr wx → IntsIn wx T (.slice na ns.length nc) ns := fun wx hb => HN.out.same (hsm wx hb)
        have hTx : ∀ wx, Below wr.heap.size wr wx → ∀ b, T b → b < wx.heap.size := fun wx hb b hTb => by have := hT b hTb; have := hb1.size; have := hb.size; omega
        have HA1 := hid (fun wx hb => at_in _ ks wx (hKI wx hb) (hTx wx hb) hkl k (by omega))
        have HA2 := hid (fun wx hb => at_in _ ns wx (hNI wx hb) (hTx wx hb) hnl k (by omega))
        have hkr : -9223372036854775808 ≤ ks.getD k 0 ∧ ks.getD k 0 ≤ 9223372036854775807 := by
          by_cases hkk : k < ks.length
          · have : ks.getD k 0 ∈ ks := by rw [show ks.getD k 0 = ks[k] by simp [List.getD, hkk]]; exact List.getElem_mem hkk
            exact hk64 _ this
          · rw [show ks.getD k 0 = 0 by simp [List.getD, List.getElem?_eq_none (Nat.le_of_not_lt hkk)]]; omega
        have hCr : ∀ wx, Below wr.heap.size wr wx → Calls Tryz.prog 37 #[.pointer (some ⟨x.g, 0, none⟩), .int .i64 (ks.getD k 0), .int .i64 (ns.getD k 0)] wx
            (fun e w' => e = .returned (.tuple #[]) ∧ RoundAt w1 S a s ks ns (j + 1) (k + 1) (updK AF.key L'[j].name (fun f => crF f (ks.getD k 0) (ns.getD k 0)) L') w') := by
          intro wx hb
          have hDx := hDr.below hb
          have hcx : Chg S w1 wx := hR.chg.trans (T := fun _ => False) (Chg.of_below hb) (fun _ e => e.elim)
          have hcl : Calls Tryz.prog 37 #[.pointer (some ⟨x.g, 0, none⟩), .int .i64 (ks.getD k 0), .int .i64 (ns.getD k 0)] wx (CrashTail wx (grow S w1 wr) a { s with L := updK AF.key L'[j].name (fun f => crF f (ks.getD k 0) (ns.getD k 0)) L' }) := by
            by_cases hK0 : min (max (ks.getD k 0) 0) ((x.data.length : Int) - (x.synced : Int)) = 0
            · exact fileCrash_none hDx hx _ _ hK0 hkr
            · have hfl2 := hfl.2
              exact fileCrash_some hDx hx _ _ (((x.synced : Int) + min (max (ks.getD k 0) 0) ((x.data.length : Int) - (x.synced : Int)) - 1).toNat) _ rfl (by omega) (by omega) hkr
          refine hcl.mono ?_
          rintro e w' ⟨he, ⟨mb2, F2, hD2⟩, hc2⟩
          have hc3 : Chg S w1 w' := hcx.trans hc2 (fun b hb' => by rcases hb' with hb' | hb'; exact .inl hb'; exact .inr hb'.1)
          refine ⟨he, hR.yes hj ht hRise ⟨mb2, F2, hD2.widen (fun b hb' => ?_) (fun b hb' => ?_)⟩ hc3⟩
          · rcases hb' with (hb' | hb') | hb'
            · exact .inl hb'
            · exact .inr ⟨hb'.1, by have := hb.size; have := hc2.size; omega⟩
            · exact .inr ⟨by have := hcx.size; omega, hb'.2⟩
          · rcases hb' with hb' | hb'
            · have := hlt.out b hb'; have := hb1.size; have := hc3.size; omega
            · exact hb'.2
        have HC := hid hCr
        have hjI : (j : Int) < (s.L.length : Int) := by omega
        have hkI : (k : Int) ≤ (j : Int) := by omega
        have hj40' : (j : Int) < 40 := by omega
        generalize mk L'[j].name = nb at *
        clear hCr hKI hNI hTx hsm hTl hq hfA hwr hRise hR hDr hbl1 hnj hnames hcell hx hxa hsy hdl hfl hn24 hkr
        generalize ks.getD k 0 = kk at *
        generalize ns.getD k 0 = nn at *
        go_wp2_with (first
          | (go_at_call 36; (with_reducible refine HT.out.mono ?_); rintro e w2 ⟨rfl, hb2⟩)
          | (go_at_call 38; first
              | ((with_reducible refine (HA1.out _ hb2).mono ?_); rintro e w3 ⟨rfl, rfl⟩)
              | ((with_reducible refine (HA2.out _ hb2).mono ?_); rintro e w3 ⟨rfl, rfl⟩))
          | (go_at_call 37; (with_reducible refine (HC.out _ hb2).mono ?_); rintro e w4 ⟨rfl, hR4⟩))
        go_roundw
        case rel => exact ⟨j + 1, k + 1, _, by go_num, by go_num, hR4⟩
        case measure => simp [intOf]; omega
      · have hq : decide (x.synced < x.data.length) = false := by rw [hsy, hdl]; simpa using ht
        rw [hq] at hTl
        have HT := hid hTl
        have HRn := hid (fun wx hb => hR.no (wr' := wx) hb hj ht)
        have hjI : (j : Int) < (s.L.length : Int) := by omega
        have hj40' : (j : Int) < 40 := by omega
        generalize mk L'[j].name = nb at *
        clear hTl hq hfA hwr hRise hR hDr hbl1 hnj hnames hcell hx hxa hsy hdl hfl hn24 ht
        go_wp2_with (go_at_call 36; (with_reducible refine HT.out.mono ?_); rintro e w2 ⟨rfl, hb2⟩)
        go_roundw
        case rel => exact ⟨j + 1, k, _, rfl, by go_num, HRn.out _ hb2⟩
        case measure => simp [intOf]; omega
    · obtain rfl : j = s.L.length := by omega
      have heq := hR.eq
      rw [List.take_of_length_le (by omega), List.drop_of_length_le (by omega), crL_nil, List.append_nil] at heq
      subst heq
      obtain ⟨leftr, hwr, _⟩ := hDr.head
      have hw1 := hwr.set 2 (.bool false)
      have hw2 := hw1.set 3 (.int .i64 0)
      have hw3 := hw2.set 4 (.bool false)
      have d2 := hwr.cell 2
      have f2 := hwr.frozen 2
      have d3 := hw1.cell 3
      have f3 := hw1.frozen 3
      have d4 := hw2.cell 4
      have f4 := hw2.frozen 4
      simp at d2 d3 d4
      have hc : Chg (fun b => b = a) wr (((wr.setCell ⟨a, 2, none⟩ (.bool false)).setCell ⟨a, 3, none⟩ (.int .i64 0)).setCell ⟨a, 4, none⟩ (.bool false)) := ((Chg.setCell wr ⟨a, 2, none⟩ _).trans (Chg.setCell _ ⟨a, 3, none⟩ _) (fun b hb => .inl hb)).trans (Chg.setCell _ ⟨a, 4, none⟩ _) (fun b hb => .inl hb)
      have hDf := hDr.turn (fu := -1) (left := 0) (dd := false) (w' := ((wr.setCell ⟨a, 2, none⟩ (.bool false)).setCell ⟨a, 3, none⟩ (.int .i64 0)).setCell ⟨a, 4, none⟩ (.bool false)) (by simpa using hw3) (fun h0 => by omega) hc (by omega)
      have hcS : Chg S w1 (((wr.setCell ⟨a, 2, none⟩ (.bool false)).setCell ⟨a, 3, none⟩ (.int .i64 0)).setCell ⟨a, 4, none⟩ (.bool false)) := hR.chg.trans hc (fun b e => by rw [e]; exact .inl (hD.out.inA))
      have hcW : Chg S w (((wr.setCell ⟨a, 2, none⟩ (.bool false)).setCell ⟨a, 3, none⟩ (.int .i64 0)).setCell ⟨a, 4, none⟩ (.bool false)) := (Chg.of_below hb1).trans hcS (fun b hb => .inl hb)
      have HF := hid (show CrashTail w S a (crash s ks ns) (.returned (.tuple #[])) (((wr.setCell ⟨a, 2, none⟩ (.bool false)).setCell ⟨a, 3, none⟩ (.int .i64 0)).setCell ⟨a, 4, none⟩ (.bool false)) from
        ⟨rfl, ⟨mb', F', hDf.widen (fun b hb => by
          rcases hb with hb | hb
          · exact .inl hb
          · exact .inr ⟨by have := hb1.size; omega, by have := hc.size; omega⟩) (grow_lt hlt.out hcW.size)⟩, hcW⟩)
      clear hcW hcS hDf hc hw1 hw2 hw3 hwr hDr hR hbl1 hRise
      go_wp2
      go_end0
      exact HF.out
theorem crash_any (h : DiskIs w S a s) {B : Nat} (hB : B ≤ w.heap.size) (hSB : ∀ b, S b → B ≤ b) {kv nv : Value} {ks ns : List Int} (hkv : IntsAt w B kv ks) (hnv : IntsAt w B nv ns) (hkl : ks.length ≤ 1000) (hnl : ns.length ≤ 1000)
    (hk64 : ∀ n ∈ ks, -9223372036854775808 ≤ n ∧ n ≤ 9223372036854775807) :
    Calls Tryz.prog 20 #[.pointer (some ⟨a, 0, none⟩), kv, nv] w (CrashTail w S a (crash s ks ns)) :=
  crash_in h (T := fun b => b < B) (fun b hb => ⟨by omega, fun hS => by have := hSB b hS; omega⟩) hkv.isIn hnv.isIn hkl hnl hk64
end
end Go.Proofs.YtbccikefccdekaaGreatDoor

/-
  LAYER 2 (disk): New.
-/
namespace Go.Proofs.YtbccikefccdekaaGreatDoor
open Go.RowKit Go.Maps
set_option linter.unusedVariables false
set_option maxRecDepth 100000

def NewPost (w : World) (s : Dk) (e : Ending) (w' : World) : Prop := ∃ a S, e = .returned (.tuple #[.pointer (some ⟨a, 0, none⟩), .int .i64 0]) ∧ DiskIs w' S a s ∧ (∀ b, S b → w.heap.size ≤ b) ∧ Below w.heap.size w w'
set_option maxHeartbeats 1000000 in
theorem new_ok (m : Int) (w : World) (h0 : 0 ≤ m) (h1 : m ≤ 10000000) : Calls Tryz.prog 16 #[.int .i64 m] w (NewPost w (newD m)) := by
  have hfin : NewPost w (newD m) (.returned (.tuple #[.pointer (some ⟨w.heap.size + 1, 0, none⟩), .int .i64 0])) ((w.alloc (.map #[] 0)).alloc (.cells #[.int .i64 m, .map (some w.heap.size), .bool false, .int .i64 0, .bool false] 71)) := by
    have hz : (w.alloc (.map #[] 0)).heap.size = w.heap.size + 1 := by simp
    refine ⟨w.heap.size + 1, fun b => b = w.heap.size ∨ b = w.heap.size + 1, rfl, ⟨w.heap.size, [], ?_⟩, fun b hb => by omega, ((Below.refl _ w).alloc (Nat.le_refl _) _).alloc (by simp) _⟩
    refine ⟨⟨0, ?_, fun h => by simp [newD] at h⟩, rfl, ?_, by simp, by simp, by simp, fun b hb => ?_, Ok_new h0 h1⟩
    · have := own.new (w.alloc (.map #[] 0)) #[.int .i64 m, .map (some w.heap.size), .bool false, .int .i64 0, .bool false] 71
      rw [hz] at this
      exact this
    · exact (World.ownsMap_made w Tryz.prog 9 ptrElem).alloc _
    · simp; omega
  have HF := hid hfin
  clear hfin
  generalize newD m = s at *
  have hmk : (Instr.makeMap 69 none).run Tryz.prog w = .ok (.map (some w.heap.size)) (w.alloc (.map #[] 0)) := rfl
  go_enter Tryz.func16, Tryz.ntmps16
  go_wp2
  go_ret2
  exact HF.out
set_option maxHeartbeats 1000000 in
theorem new_bad (m : Int) (w : World) (h : m < 0 ∨ 10000000 < m) : Calls Tryz.prog 16 #[.int .i64 m] w fun e w' => e = .returned (.tuple #[.pointer none, .int .i64 2]) ∧ w = w' := by
  rcases h with h | h
  · go_enter Tryz.func16, Tryz.ntmps16
    go_wp2
    go_ret2
    exact ⟨rfl, rfl⟩
  · have h2 : 0 ≤ m := by omega
    go_enter Tryz.func16, Tryz.ntmps16
    go_wp2
    go_ret2
    exact ⟨rfl, rfl⟩
end Go.Proofs.YtbccikefccdekaaGreatDoor

/-
  LAYER 2 (disk): small laws of a disk's list, and of names.
-/
namespace Go.Proofs.YtbccikefccdekaaGreatDoor
open Go.RowKit Go.Maps
set_option linter.unusedVariables false
set_option maxRecDepth 100000
theorem sz_take {L : List AF} {k : Nat} (hk : k < L.length) : sz (L.take (k + 1)) = sz (L.take k) + L[k].data.length := by
  rw [List.take_succ_eq_append_getElem hk]
  unfold sz
  rw [List.map_append, List.sum_append]
  simp
theorem sz_take_le (L : List AF) (k : Nat) : sz (L.take k) ≤ sz L := by
  have h : sz (L.take k ++ L.drop k) = sz L := by rw [List.take_append_drop]
  rw [← h]
  unfold sz
  rw [List.map_append, List.sum_append]
  omega
theorem rd_at {s : Dk} (h : s.Ok) (hd : s.dead = false) {k : Nat} (hk : k < s.L.length) : rd s s.L[k].name = (s.L[k].data, 0) := by
  unfold rd
  rw [hd, show fndK AF.key s.L[k].name s.L = some s.L[k] from fndK_of_mem h.rise (List.getElem_mem hk)]
  rfl
theorem rise_at {L : List AF} (h : RiseK AF.key L) {i j : Nat} (hij : i < j) (hj : j < L.length) : (L[i]'(by omega)).name < L[j].name := by
  unfold RiseK at h
  rw [List.pairwise_iff_getElem] at h
  exact h i j (by omega) hj hij
theorem names_slice2 {w : World} {B : Nat} {v : Value} {L : List AF} (h : NamesAt w B v (L.map AF.name)) : ∃ ao cap, v = .slice ao L.length cap := by
  obtain ⟨ao, cap, hv⟩ := names_slice h
  exact ⟨ao, cap, by rw [hv]; simp⟩
theorem names_cell2 {w : World} {B : Nat} {ao : Option Addr} {cp : Nat} {L : List AF} (h : NamesAt w B (.slice ao L.length cp) (L.map AF.name)) {j : Nat} (hj : j < L.length) :
    ∃ g, ao = some ⟨g, 0, none⟩ ∧ B ≤ g ∧ g < w.heap.size ∧ ∀ i (hi : i < L.length), w.cell? ⟨g, i, none⟩ = some (.string (mk L[i].name)) := by
  obtain ⟨g, cp', hv, h1, h2, _, _⟩ := names_cell h (j := j) (by simpa using hj)
  simp only [Value.slice.injEq] at hv
  obtain ⟨rfl, _, rfl⟩ := hv
  refine ⟨g, rfl, h1, h2, fun i hi => ?_⟩
  obtain ⟨g2, cp2, hv2, _, _, _, hc⟩ := names_cell h (j := i) (by simpa using hi)
  simp only [Value.slice.injEq, Option.some.injEq, Addr.mk.injEq] at hv2
  obtain rfl : g = g2 := hv2.1.1
  simpa using hc

theorem IntsAt.mono {w : World} {B B' : Nat} {v : Value} {xs : List Int} (h : IntsAt w B v xs) (hB : B ≤ B') : IntsAt w B' v xs := by
  obtain ⟨a, cap, hv, hc⟩ := h
  refine ⟨a, cap, hv, fun hne => ?_⟩
  obtain ⟨sb, so, h1, h2, h3⟩ := hc hne
  exact ⟨sb, so, h1, by omega, h3⟩
end Go.Proofs.YtbccikefccdekaaGreatDoor

