import Derived.Test.YtpcafkinpkepcaaGreatDoorWq17
/-
  Wq18: DkE, in one text.
-/
/-
  LAYER 2 (disk): Append, where it passes.
-/
namespace Go.Proofs.YtpcafkinpkepcaaGreatDoor
open Go.RowKit Go.Maps
set_option linter.unusedVariables false
set_option maxRecDepth 100000

section
variable {w w' : World} {S : Nat → Prop} {a mb : Nat} {F : List Fl} {s : Dk}

theorem grow_grow {w1 w2 : World} (h1 : w.heap.size ≤ w1.heap.size) (h2 : w1.heap.size ≤ w2.heap.size) : ∀ b, grow (grow S w w1) w1 w2 b → grow S w w2 b := by
  intro b hb
  rcases hb with (hb | hb) | hb
  · exact .inl hb
  · exact .inr ⟨hb.1, by omega⟩
  · exact .inr ⟨by omega, hb.2⟩
/-- What went before, and what came of it. -/
theorem DiskRep.after {w1 w2 : World} {S1 : Nat → Prop} {F' : List Fl} {s' : Dk} (hS : ∀ b, S1 b → grow S w w1 b) (hlt : ∀ b, S b → b < w.heap.size) (hz : w.heap.size ≤ w1.heap.size) (hz2 : w1.heap.size ≤ w2.heap.size)
    (h : DiskRep w2 (grow S1 w1 w2) a mb F' s') : DiskRep w2 (grow S w w2) a mb F' s' := by
  refine h.widen (fun b hb => ?_) (grow_lt hlt (by omega))
  rcases hb with hb | hb
  · rcases hS b hb with h1 | h1
    · exact .inl h1
    · exact .inr ⟨h1.1, by omega⟩
  · exact .inr ⟨by omega, hb.2⟩
theorem Chg.after {w1 w2 : World} {S1 : Nat → Prop} (h : Chg S w w1) (hS : ∀ b, S1 b → grow S w w1 b) (h2 : Chg S1 w1 w2) : Chg S w w2 :=
  h.trans h2 (fun b hb => by rcases hS b hb with h1 | h1; exact .inl h1; exact .inr h1.1)

set_option maxHeartbeats 2000000 in
theorem append_dead (h : DiskRep w S a mb F s) (n d : ByteArray) (hn : n.size ≤ maxLen) (hd : d.size ≤ 140737488355328) (hdd : s.dead = false) (hnm : isName n.data.toList = true) (v : Value) (b : Bool)
    (hl0 : LookIs w mb n v b) (hlen0 : LenIs w mb b) (hfull : ¬ s.most - (sz s.L : Int) < d.size) (hfu : s.fuse = 0) :
    Calls Tryz.prog 30 #[.pointer (some ⟨a, 0, none⟩), .string n, .string d] w (OpPost w S a ({ s with dead := true }, 7)) := by
  obtain ⟨left, hw, _⟩ := h.head
  have c0 := hw.cell 0
  have c1 := hw.cell 1
  have c4 := hw.cell 4
  simp [hdd] at c0 c1 c4
  have HN := hid (fun w => by have := name_any n w hn; rwa [hnm] at this)
  have HZ := hid (fun w1 (hb : Below w.heap.size w w1) => size_any (h.below hb))
  have hsp : ∀ w1, Below w.heap.size w w1 → Calls Tryz.prog 71 #[.pointer (some ⟨a, 0, none⟩)] w1 fun e w2 => e = .returned (.int .i64 7) ∧ OpPost w S a ({ s with dead := true }, 7) (.returned (.int .i64 7)) w2 := by
    intro w1 hb1
    refine (spend_hid w1 (h.below hb1) 7 (if_pos hfu) _ (if_pos hfu)).mono ?_
    rintro e w2 ⟨rfl, hD, hc, hz⟩
    have hc' : Chg S w w2 := (Chg.of_below hb1).trans hc (fun b e => .inl (by rw [e]; exact h.inA))
    exact ⟨rfl, rfl, ⟨mb, F, hD.widen grow_mono (grow_lt h.lt hc'.size)⟩, hc'⟩
  have HS := hid hsp
  have hm1 : s.most ≤ 10000000 := h.ok.most
  have hm2 : (sz s.L : Int) ≤ s.most := h.ok.room
  have hm3 : 0 ≤ (sz s.L : Int) := by omega
  have ha : a < w.heap.size := hw.lt
  have hq2 : decide ((d.size : Int) > s.most - (sz s.L : Int)) = false := by simp; omega
  unfold maxLen at hn
  unfold LookIs at hl0
  obtain ⟨k, hlen, hk⟩ := hlen0
  clear hnm hdd h hw hsp hfull
  generalize (sz s.L : Int) = N at *
  have hW : IntKind.i64.wrap (s.most - N) = s.most - N := IntWalk.i64_in _ (by omega)
  generalize s.most = M at *
  have hkk : b = true ∨ (b = false ∧ decide (k ≥ 40) = false) := by
    rcases hk with hk | hk
    · exact .inl hk
    · cases b with
      | true => exact .inl rfl
      | false => exact .inr ⟨rfl, by simp; omega⟩
  clear hk
  generalize ({ s with dead := true } : Dk) = sd at *
  rcases hkk with rfl | ⟨rfl, hkk⟩
  all_goals
    go_enter Tryz.func30, Tryz.ntmps30
    go_wp2_with (go_at_call 70; (with_reducible refine (HN.out _).mono ?_); rintro e w1 ⟨rfl, rfl⟩)
    go_region_held3 (fun wx => wx.cell? ⟨a, 0, none⟩ = some (.int .i64 M) ∧ Below w.heap.size w wx) (first | exact ⟨c0, Below.drew (Below.refl _ _)⟩ | exact ⟨hc3, hb3⟩ | go_keep)
      (first | (go_at_call 41; (with_reducible refine (HZ.out _ (And.right (by assumption))).mono ?_); rintro e w2 ⟨rfl, hb2⟩; have hb3 : Below w.heap.size w w2 := Below.trans (And.right (by assumption)) (hb2.mono (Below.size (And.right (by assumption)))); have hc3 := (hb3.cell (p := ⟨a, 0, none⟩) ha).trans c0))
    clear hW
    go_wp2_with (go_at_call 71; (with_reducible refine (HS.out _ (And.right (by assumption))).mono ?_); rintro e w4 ⟨rfl, hP⟩; have HP := hid hP; clear hP)
    go_ret
    exact HP.out

def OldTail (w : World) (S : Nat → Prop) (a : Nat) (r : Dk × Int) (x : Fl) (d : ByteArray) (e : Ending) (w2 : World) : Prop :=
  e = .returned (.int .i64 0) ∧ w2.cell? ⟨x.g, 0, none⟩ = some x.v ∧ ∃ ao nn cap w4, (Builtin.append_ #[93, 9] 93 #[x.v, .string d]).run Tryz.prog w2 = .ok (.slice ao nn cap) w4 ∧ w4.cell? ⟨x.g, 0, none⟩ = some x.v ∧ w4.frozen? ⟨x.g, 0, none⟩ = false ∧
    OpPost w S a r (.returned (.int .i64 0)) (w4.setCell ⟨x.g, 0, none⟩ (.slice ao nn cap))

set_option maxHeartbeats 2000000 in
theorem append_old (h : DiskRep w S a mb F s) (n d : ByteArray) (hn : n.size ≤ maxLen) (hd : d.size ≤ 140737488355328) (hdd : s.dead = false) (hnm : isName n.data.toList = true) (x : Fl)
    (hx : fndK Fl.key n.data.toList F = some x) (hfull : ¬ s.most - (sz s.L : Int) < d.size) (hfu : s.fuse ≠ 0) :
    Calls Tryz.prog 30 #[.pointer (some ⟨a, 0, none⟩), .string n, .string d] w (OpPost w S a ({ ticked s with L := updK AF.key n.data.toList (addF d.data.toList) s.L }, 0)) := by
  obtain ⟨left, hw, _⟩ := h.head
  have c0 := hw.cell 0
  have c1 := hw.cell 1
  have c4 := hw.cell 4
  simp [hdd] at c0 c1 c4
  have hl0 := look_some h hn hx
  have HN := hid (fun w => by have := name_any n w hn; rwa [hnm] at this)
  have HZ := hid (fun w1 (hb : Below w.heap.size w w1) => size_any (h.below hb))
  have hsp : ∀ w1, Below w.heap.size w w1 → Calls Tryz.prog 71 #[.pointer (some ⟨a, 0, none⟩)] w1 (OldTail w S a ({ ticked s with L := updK AF.key n.data.toList (addF d.data.toList) s.L }, 0) x d) := by
    intro w1 hb1
    refine (spend_hid w1 (h.below hb1) 0 (if_neg hfu) _ (if_neg hfu)).mono ?_
    rintro e w2 ⟨rfl, hD, hc, hz⟩
    have hc' : Chg S w w2 := (Chg.of_below hb1).trans hc (fun b e => .inl (by rw [e]; exact h.inA))
    obtain ⟨ao, nn, cap, w4, v', rfl, hr, h1, h2, ⟨F', hD4⟩, hc4⟩ := add_tail hD hx d (by show (sz s.L : Int) + d.size ≤ s.most; omega) 93
    have hcx := (hD.files x (fndK_some hx).1).blk.cell 0
    refine ⟨rfl, by rw [hcx]; rfl, ao, nn, cap, w4, hr, h1, h2, rfl, ⟨mb, F', ?_⟩, hc'.trans hc4 (fun b hb => .inl hb)⟩
    exact hD4.after (fun b hb => .inl hb) h.lt hc'.size hc4.size
  have HS := hid hsp
  have hm1 : s.most ≤ 10000000 := h.ok.most
  have hm2 : (sz s.L : Int) ≤ s.most := h.ok.room
  have hm3 : 0 ≤ (sz s.L : Int) := by omega
  have ha : a < w.heap.size := hw.lt
  have hq2 : decide ((d.size : Int) > s.most - (sz s.L : Int)) = false := by simp; omega
  unfold maxLen at hn
  unfold Fl.ptr at hl0
  clear hnm hdd h hw hsp hfull hx hfu
  generalize (sz s.L : Int) = N at *
  have hW : IntKind.i64.wrap (s.most - N) = s.most - N := IntWalk.i64_in _ (by omega)
  generalize s.most = M at *
  generalize ({ ticked s with L := updK AF.key n.data.toList (addF d.data.toList) s.L } : Dk) = sd at *
  go_enter Tryz.func30, Tryz.ntmps30
  go_wp2_with (go_at_call 70; (with_reducible refine (HN.out _).mono ?_); rintro e w1 ⟨rfl, rfl⟩)
  go_region_held3 (fun wx => wx.cell? ⟨a, 0, none⟩ = some (.int .i64 M) ∧ Below w.heap.size w wx) (first | exact ⟨c0, Below.drew (Below.refl _ _)⟩ | exact ⟨hc3, hb3⟩ | go_keep)
    (first | (go_at_call 41; (with_reducible refine (HZ.out _ (And.right (by assumption))).mono ?_); rintro e w2 ⟨rfl, hb2⟩; have hb3 : Below w.heap.size w w2 := Below.trans (And.right (by assumption)) (hb2.mono (Below.size (And.right (by assumption)))); have hc3 := (hb3.cell (p := ⟨a, 0, none⟩) ha).trans c0))
  clear hW
  go_wp2_with (first
    | (go_at_call 71; (with_reducible refine (HS.out _ (And.right (by assumption))).mono ?_); rintro e w4 ⟨rfl, hcx, ao, nn, cap, w5, hrun, hd1, hd2, hP⟩; have HP := hid hP; clear hP)
    | (at_builtin; refine wpList_append_run rfl _ _ 93 9 rfl _ _ rfl rfl _ w5 hrun ?_))
  go_ret
  exact HP.out

def NewTail (w : World) (S : Nat → Prop) (a : Nat) (r : Dk × Int) (g : Nat) (d : ByteArray) (e : Ending) (w2 : World) : Prop :=
  e = .returned (.pointer (some ⟨g, 0, none⟩)) ∧ w2.cell? ⟨g, 0, none⟩ = some (.slice none 0 0) ∧ ∃ ao nn cap w4, (Builtin.append_ #[93, 9] 93 #[.slice none 0 0, .string d]).run Tryz.prog w2 = .ok (.slice ao nn cap) w4 ∧
    w4.cell? ⟨g, 0, none⟩ = some (.slice none 0 0) ∧ w4.frozen? ⟨g, 0, none⟩ = false ∧ OpPost w S a r (.returned (.int .i64 0)) (w4.setCell ⟨g, 0, none⟩ (.slice ao nn cap))
def SpendNew (w : World) (S : Nat → Prop) (a : Nat) (n : ByteArray) (r : Dk × Int) (d : ByteArray) (e : Ending) (w2 : World) : Prop :=
  e = .returned (.int .i64 0) ∧ Hid (Calls Tryz.prog 72 #[.pointer (some ⟨a, 0, none⟩), .string n] w2 (NewTail w S a r w2.heap.size d))

set_option maxHeartbeats 2000000 in
theorem append_new (h : DiskRep w S a mb F s) (n d : ByteArray) (hn : n.size ≤ maxLen) (hd : d.size ≤ 140737488355328) (hdd : s.dead = false) (hnm : isName n.data.toList = true)
    (hx : fndK Fl.key n.data.toList F = none) (hmany : s.L.length < 40) (hfull : ¬ s.most - (sz s.L : Int) < d.size) (hfu : s.fuse ≠ 0) :
    Calls Tryz.prog 30 #[.pointer (some ⟨a, 0, none⟩), .string n, .string d] w (OpPost w S a ({ ticked s with L := insK AF.key (newF n.data.toList d.data.toList) s.L }, 0)) := by
  obtain ⟨left, hw, _⟩ := h.head
  have c0 := hw.cell 0
  have c1 := hw.cell 1
  have c4 := hw.cell 4
  simp [hdd] at c0 c1 c4
  have hl0 := look_none h hn hx
  have hlen := h.map.len Tryz.underlying103 3
  rw [size_ent] at hlen
  have hFl := h.len
  have hq0 : decide ((F.length : Int) ≥ 40) = false := by simp; omega
  have hnA : fndK AF.key n.data.toList s.L = none := by rw [h.fnd, hx]; rfl
  have hn48 : n.size ≤ 140737488355328 := by
    unfold isName at hnm
    simp at hnm
    rw [← str_len]; simp; omega
  have HN := hid (fun w => by have := name_any n w hn; rwa [hnm] at this)
  have HZ := hid (fun w1 (hb : Below w.heap.size w w1) => size_any (h.below hb))
  have hsp : ∀ w1, Below w.heap.size w w1 → Calls Tryz.prog 71 #[.pointer (some ⟨a, 0, none⟩)] w1 (SpendNew w S a n ({ ticked s with L := insK AF.key (newF n.data.toList d.data.toList) s.L }, 0) d) := by
    intro w1 hb1
    refine (spend_hid w1 (h.below hb1) 0 (if_neg hfu) _ (if_neg hfu)).mono ?_
    rintro e w2 ⟨rfl, hD, hc, hz⟩
    have hc' : Chg S w w2 := (Chg.of_below hb1).trans hc (fun b e => .inl (by rw [e]; exact h.inA))
    refine ⟨rfl, hid ((create_any hD n hn48 hnm hx (by rw [hFl]; exact hmany)).mono ?_)⟩
    rintro e w3 ⟨rfl, hD3, hc3⟩
    have hfx : fndK Fl.key n.data.toList (insK Fl.key (freshFl n.data.toList w2.heap.size) F) = some (freshFl n.data.toList w2.heap.size) := by
      rw [fndK_ins (fndK_none hx), if_pos (show n.data.toList = (freshFl n.data.toList w2.heap.size).key from rfl)]
    have hsz : sz (insK AF.key (newF n.data.toList []) s.L) = sz s.L := by rw [sz_ins]; simp [newF]
    obtain ⟨ao, nn, cap, w4, v', rfl, hr, h1, h2, ⟨F', hD4⟩, hc4⟩ := add_tail hD3 hfx d (by show (sz (insK AF.key (newF n.data.toList []) s.L) : Int) + d.size ≤ s.most; rw [hsz]; omega) 93
    have hcx := (hD3.files _ (fndK_some hfx).1).blk.cell 0
    have hc2 : Chg S w w3 := hc'.trans hc3 (fun b hb => .inl hb)
    have hgr : ∀ b, grow S w2 w3 b → grow S w w3 b := fun b hb => grow_grow hc'.size hc3.size b (by
      rcases hb with hb | hb
      · exact .inl (.inl hb)
      · exact .inr hb)
    refine ⟨rfl, by rw [show (freshFl n.data.toList w2.heap.size).g = w2.heap.size from rfl] at hcx; rw [hcx]; rfl, ao, nn, cap, w4, hr, h1, h2, rfl, ⟨mb, F', ?_⟩, hc2.after hgr hc4⟩
    have hL : ({ ticked s with L := insK AF.key (newF n.data.toList d.data.toList) s.L } : Dk) = { ticked s with L := updK AF.key n.data.toList (addF d.data.toList) (insK AF.key (newF n.data.toList []) s.L) } := by rw [upd_ins hnA]
    show DiskRep _ _ a mb F' ({ ticked s with L := insK AF.key (newF n.data.toList d.data.toList) s.L } : Dk)
    rw [hL]
    exact hD4.after hgr h.lt hc2.size hc4.size
  have HS := hid hsp
  have hm1 : s.most ≤ 10000000 := h.ok.most
  have hm2 : (sz s.L : Int) ≤ s.most := h.ok.room
  have hm3 : 0 ≤ (sz s.L : Int) := by omega
  have ha : a < w.heap.size := hw.lt
  have hq2 : decide ((d.size : Int) > s.most - (sz s.L : Int)) = false := by simp; omega
  unfold maxLen at hn
  clear hnm hdd h hw hsp hfull hx hfu hnA hFl
  generalize (sz s.L : Int) = N at *
  have hW : IntKind.i64.wrap (s.most - N) = s.most - N := IntWalk.i64_in _ (by omega)
  generalize s.most = M at *
  generalize ({ ticked s with L := insK AF.key (newF n.data.toList d.data.toList) s.L } : Dk) = sd at *
  go_enter Tryz.func30, Tryz.ntmps30
  go_wp2_with (go_at_call 70; (with_reducible refine (HN.out _).mono ?_); rintro e w1 ⟨rfl, rfl⟩)
  go_region_held3 (fun wx => wx.cell? ⟨a, 0, none⟩ = some (.int .i64 M) ∧ Below w.heap.size w wx) (first | exact ⟨c0, Below.drew (Below.refl _ _)⟩ | exact ⟨hc3, hb3⟩ | go_keep)
    (first | (go_at_call 41; (with_reducible refine (HZ.out _ (And.right (by assumption))).mono ?_); rintro e w2 ⟨rfl, hb2⟩; have hb3 : Below w.heap.size w w2 := Below.trans (And.right (by assumption)) (hb2.mono (Below.size (And.right (by assumption)))); have hc3 := (hb3.cell (p := ⟨a, 0, none⟩) ha).trans c0))
  clear hW
  go_wp2_with (first
    | (go_at_call 71; (with_reducible refine (HS.out _ (And.right (by assumption))).mono ?_); rintro e w4 ⟨rfl, HCr⟩)
    | (go_at_call 72; (with_reducible refine HCr.out.mono ?_); rintro e w6 ⟨rfl, hcx, ao, nn, cap, w5, hrun, hd1, hd2, hP⟩; have HP := hid hP; clear hP)
    | (at_builtin; refine wpList_append_run rfl _ _ 93 9 rfl _ _ rfl rfl _ w5 hrun ?_))
  go_ret
  exact HP.out

set_option maxHeartbeats 2000000 in
theorem append_early (h : DiskRep w S a mb F s) (n d : ByteArray) (hn : n.size ≤ maxLen) (k : Int) (hk : (s.dead = true ∧ k = 7) ∨ (s.dead = false ∧ isName n.data.toList = false ∧ k = 3) ∨ (s.dead = false ∧ isName n.data.toList = true ∧ fndK Fl.key n.data.toList F = none ∧ 40 ≤ s.L.length ∧ k = 11)) :
    Calls Tryz.prog 30 #[.pointer (some ⟨a, 0, none⟩), .string n, .string d] w (OpPost w S a (s, k)) := by
  obtain ⟨left, hw, _⟩ := h.head
  have c1 := hw.cell 1
  have c4 := hw.cell 4
  simp at c1 c4
  have hfin : OpPost w S a (s, k) (.returned (.int .i64 k)) w := OpPost.none h (Below.refl _ _) rfl rfl
  have HF := hid hfin
  have HN := hid (fun w => name_any n w hn)
  have hlen := h.map.len Tryz.underlying103 3
  rw [size_ent] at hlen
  have hFl := h.len
  obtain ⟨v, hl⟩ := look_any h hn
  have hl0 := fun hx => look_none h hn hx
  clear hfin h hw
  rcases hk with ⟨hdd, rfl⟩ | ⟨hdd, hnm, rfl⟩ | ⟨hdd, hnm, hx, hmany, rfl⟩
  · rw [hdd] at c4
    clear hl0 hFl hdd
    go_enter Tryz.func30, Tryz.ntmps30
    go_wp2
    go_ret
    exact HF.out
  · rw [hdd] at c4
    rw [hnm] at HN
    clear hl0 hFl hdd hnm
    go_enter Tryz.func30, Tryz.ntmps30
    go_wp2_with (go_at_call 70; (with_reducible refine (HN.out _).mono ?_); rintro e w1 ⟨rfl, rfl⟩)
    go_ret
    exact HF.out
  · rw [hdd] at c4
    rw [hnm] at HN
    have hl1 := hl0 hx
    have hq0 : decide ((F.length : Int) ≥ 40) = true := by simp; omega
    clear hl0 hl hFl hdd hnm hx
    go_enter Tryz.func30, Tryz.ntmps30
    go_wp2_with (go_at_call 70; (with_reducible refine (HN.out _).mono ?_); rintro e w1 ⟨rfl, rfl⟩)
    go_ret
    exact HF.out

/-- APPEND. -/
theorem append_any (h : DiskIs w S a s) (n d : ByteArray) (hn : n.size ≤ maxLen) (hd : d.size ≤ 140737488355328) :
    Calls Tryz.prog 30 #[.pointer (some ⟨a, 0, none⟩), .string n, .string d] w (OpPost w S a (app s n.data.toList d.data.toList)) := by
  obtain ⟨mb, F, h⟩ := h
  have hfa := h.fnd n.data.toList
  have hlen := h.map.len Tryz.underlying103 3
  rw [size_ent] at hlen
  have hFl := h.len
  cases hdd : s.dead with
  | true =>
    have : app s n.data.toList d.data.toList = (s, 7) := by unfold app; rw [if_pos hdd]
    rw [this]
    exact append_early h n d hn 7 (.inl ⟨hdd, rfl⟩)
  | false =>
    have hdn : ¬ s.dead = true := by rw [hdd]; simp
    cases hnm : isName n.data.toList with
    | false =>
      have : app s n.data.toList d.data.toList = (s, 3) := by unfold app; rw [if_neg hdn, if_pos hnm]
      rw [this]
      exact append_early h n d hn 3 (.inr (.inl ⟨hdd, hnm, rfl⟩))
    | true =>
      have hnn : ¬ isName n.data.toList = false := by rw [hnm]; simp
      cases hx : fndK Fl.key n.data.toList F with
      | none =>
        rw [hx] at hfa
        have hfa' : fndK AF.key n.data.toList s.L = none := hfa
        by_cases hmany : 40 ≤ s.L.length
        · have : app s n.data.toList d.data.toList = (s, 11) := by unfold app; rw [if_neg hdn, if_neg hnn, hfa']; simp only; rw [if_pos hmany]
          rw [this]
          exact append_early h n d hn 11 (.inr (.inr ⟨hdd, hnm, hx, hmany, rfl⟩))
        · by_cases hfull : s.most - (sz s.L : Int) < d.size
          · have : app s n.data.toList d.data.toList = (s, 6) := by unfold app; rw [if_neg hdn, if_neg hnn, hfa']; simp only; rw [if_neg hmany, if_pos (by rw [str_len]; exact hfull)]
            rw [this]
            exact append_full h n d hn hd hdd hnm (.pointer none) false (look_none h hn hx) ⟨_, hlen, .inr (by omega)⟩ hfull
          · by_cases hfu : s.fuse = 0
            · have : app s n.data.toList d.data.toList = ({ s with dead := true }, 7) := by unfold app; rw [if_neg hdn, if_neg hnn, hfa']; simp only; rw [if_neg hmany, if_neg (by rw [str_len]; exact hfull), spends_eq, if_pos hfu]; unfold spendTo; rw [if_pos hfu]
              rw [this]
              exact append_dead h n d hn hd hdd hnm (.pointer none) false (look_none h hn hx) ⟨_, hlen, .inr (by omega)⟩ hfull hfu
            · have : app s n.data.toList d.data.toList = ({ ticked s with L := insK AF.key (newF n.data.toList d.data.toList) s.L }, 0) := by unfold app; rw [if_neg hdn, if_neg hnn, hfa']; simp only; rw [if_neg hmany, if_neg (by rw [str_len]; exact hfull), spends_eq, if_neg hfu]; rfl
              rw [this]
              exact append_new h n d hn hd hdd hnm hx (by omega) hfull hfu
      | some x =>
        rw [hx] at hfa
        have hfa' : fndK AF.key n.data.toList s.L = some x.abs := hfa
        by_cases hfull : s.most - (sz s.L : Int) < d.size
        · have : app s n.data.toList d.data.toList = (s, 6) := by unfold app; rw [if_neg hdn, if_neg hnn, hfa']; simp only; rw [if_pos (by rw [str_len]; exact hfull)]
          rw [this]
          exact append_full h n d hn hd hdd hnm x.ptr true (look_some h hn hx) ⟨_, hlen, .inl rfl⟩ hfull
        · by_cases hfu : s.fuse = 0
          · have : app s n.data.toList d.data.toList = ({ s with dead := true }, 7) := by unfold app; rw [if_neg hdn, if_neg hnn, hfa']; simp only; rw [if_neg (by rw [str_len]; exact hfull), spends_eq, if_pos hfu]; unfold spendTo; rw [if_pos hfu]
            rw [this]
            exact append_dead h n d hn hd hdd hnm x.ptr true (look_some h hn hx) ⟨_, hlen, .inl rfl⟩ hfull hfu
          · have : app s n.data.toList d.data.toList = ({ ticked s with L := updK AF.key n.data.toList (addF d.data.toList) s.L }, 0) := by unfold app; rw [if_neg hdn, if_neg hnn, hfa']; simp only; rw [if_neg (by rw [str_len]; exact hfull), spends_eq, if_neg hfu]; rfl
            rw [this]
            exact append_old h n d hn hd hdd hnm x hx hfull hfu
end
end Go.Proofs.YtpcafkinpkepcaaGreatDoor

