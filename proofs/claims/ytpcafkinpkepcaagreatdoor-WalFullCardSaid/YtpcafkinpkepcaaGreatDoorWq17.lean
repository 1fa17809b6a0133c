import Derived.Test.YtpcafkinpkepcaaGreatDoorWq12
import Derived.Lib.AppendStr
import Derived.Test.YtpcafkinpkepcaaGreatDoorWq16
import Derived.Deep.RegionHeld3
import Derived.WalkSpells
import Derived.IntWalk
/-
  Wq17: App, DkD, in one text.
-/
/-
  append(b, s...) at a row of bytes: where the new row lies.
-/
namespace Go.Proofs.YtpcafkinpkepcaaGreatDoor
open Go.RowKit
set_option linter.unusedVariables false
set_option maxRecDepth 100000

theorem run_app_str (w : World) (ty : TypeId) (v : Value) (l : List UInt8) (hown : Bytes w 0 v l) (s : ByteArray) (hb : l.length + s.size ≤ 140737488355328) :
    ∃ v' w', (Builtin.append_ #[93, 9] ty #[v, .string s]).run Tryz.prog w = .ok v' w' ∧ Bytes w' 0 v' (l ++ s.data.toList) ∧ w.grownBy w' v.ownBlock ∧ (∀ b, v'.ownBlock = some b → v.ownBlock = some b ∨ w.heap.size ≤ b) := by
  obtain ⟨i0, hi, hz0, hz1, hz2⟩ := infoByte_parts
  have hm : l.length + s.size ≤ maxLen := by unfold maxLen; omega
  obtain ⟨v', w', hr, ho, hg, _⟩ := Lib.run_append_own_string (P := Tryz.prog) w 0 93 9 ty 5 i0 Tryz.underlying93 Tryz.underlying9 hi hz0 hz1 hz2 v l.length (Lib.byteCells l) hown s hm hb (Nat.zero_le _)
  refine ⟨v', w', hr, ?_, hg, ?_⟩
  · unfold Bytes
    rw [List.length_append, str_len, Lib.byteCells_append]
    exact ho
  · intro b hvb
    rcases hown.2 with ⟨rfl, h0⟩ | ⟨g, cap, cur, rfl, _, hgc, hnc, hcm, hcs, htake⟩
    · have hown' : w.ownsRow w.heap.size 5 1 (.slice none 0 0) l.length (Lib.byteCells l) := ⟨hown.1, .inl ⟨rfl, h0⟩⟩
      obtain ⟨v2, w2, hr2, ho2, _, _⟩ := Lib.run_append_own_string (P := Tryz.prog) w w.heap.size 93 9 ty 5 i0 Tryz.underlying93 Tryz.underlying9 hi hz0 hz1 hz2 (.slice none 0 0) l.length (Lib.byteCells l) hown' s hm hb (Nat.le_refl _)
      rw [hr] at hr2
      simp only [Result.ok.injEq] at hr2
      rw [← hr2.1, ← hr2.2] at ho2
      exact .inr (World.ownsRow.lt ho2 b hvb).1
    · by_cases hroom : l.length + s.size ≤ cap
      · have hr2 := Lib.run_append_room_string (P := Tryz.prog) w 93 9 ty 5 i0 Tryz.underlying93 Tryz.underlying9 hi hz1 g l.length cap cur hgc s hroom (by omega)
        rw [hr] at hr2
        simp only [Result.ok.injEq] at hr2
        rw [hr2.1] at hvb
        exact .inl hvb
      · have hr2 := Lib.run_append_grow_string (P := Tryz.prog) w 93 9 ty 5 i0 (.int .u8 0) Tryz.underlying93 Tryz.underlying9 hi hz0 ⟨g, 0, none⟩ l.length cap (Lib.byteCells l) (by rw [hz1, Lib.byteCells_length]; omega) (World.ownsRow.cells hown (g := g) rfl) s (by omega) (by omega) (by rw [hz2]; exact growslice_fits (by omega) (by omega))
        rw [hr] at hr2
        simp only [Result.ok.injEq] at hr2
        rw [hr2.1] at hvb
        cases hvb
        exact .inr (Nat.le_refl _)

/-- A call of append at the operation, by an equation on its run. -/
theorem wpList_append_run {w : World} {ops : Array Oper} {rest : List Oper} {o : Oper} {a : Act} {Q : Exit → Act → World → Prop} (hgd : o.guard = none) (sl x : Operand) (t u : TypeId)
    (ho : o.op = .call { callee := .builtin .append, args := #[sl, x], argTypes := #[t, u] }) (v s : Value) (hs : a.eval sl = v) (hx : a.eval x = s) (v' : Value) (w' : World)
    (hr : (Builtin.append_ #[t, u] o.type #[v, s]).run Tryz.prog w = .ok v' w') (h : wpList Tryz.prog ops Q rest (a.put o.dst v') w') : wpList Tryz.prog ops Q (o :: rest) a w := by
  refine wpList_plain hgd fun K hK => ?_
  unfold Oper.wp execOp
  simp only [ho, resolve, invoke, builtin, Sem.run_bind, Sem.run_pure, Result.andThen_ok, List.map_toArray, List.map_cons, List.map_nil, hs, hx, hr]
  exact hK _ _ h
end Go.Proofs.YtpcafkinpkepcaaGreatDoor

/-
  LAYER 2 (disk), the program's calls that write: create, Append, Sync, Truncate, Rename, Delete, Fuse.
-/
namespace Go.Proofs.YtpcafkinpkepcaaGreatDoor
open Go.RowKit Go.Maps
set_option linter.unusedVariables false
set_option maxRecDepth 100000

def OpPost (w : World) (S : Nat → Prop) (a : Nat) (r : Dk × Int) (e : Ending) (w' : World) : Prop := e = .returned (.int .i64 r.2) ∧ DiskIs w' (grow S w w') a r.1 ∧ Chg S w w'

section
variable {w w' : World} {S : Nat → Prop} {a mb : Nat} {F : List Fl} {s : Dk}

theorem DiskRep.growBelow (h : DiskRep w S a mb F s) (hb : Below w.heap.size w w') : DiskRep w' (grow S w w') a mb F s := (h.below hb).widen grow_mono (grow_lt h.lt hb.size)
theorem OpPost.none (h : DiskRep w S a mb F s) {k : Int} {w' : World} (hb : Below w.heap.size w w') {r : Dk × Int} (hr : r = (s, k)) {e : Ending} (he : e = .returned (.int .i64 k)) : OpPost w S a r e w' := by
  subst hr
  exact ⟨he, ⟨mb, F, h.growBelow hb⟩, Chg.of_below hb⟩
def freshFl (n : List UInt8) (g : Nat) : Fl := ⟨n, [], 0, g, .slice none 0 0⟩
def CreatePost (w : World) (S : Nat → Prop) (a mb : Nat) (F : List Fl) (s : Dk) (n : List UInt8) (e : Ending) (w' : World) : Prop :=
  e = .returned (.pointer (some ⟨w.heap.size, 0, none⟩)) ∧ DiskRep w' (grow S w w') a mb (insK Fl.key (freshFl n w.heap.size) F) { s with L := insK AF.key (newF n []) s.L } ∧ Chg S w w'

set_option maxHeartbeats 1000000 in
theorem create_any (h : DiskRep w S a mb F s) (n : ByteArray) (hn : n.size ≤ 140737488355328) (hname : isName n.data.toList = true) (hno : fndK Fl.key n.data.toList F = none) (hmany : F.length < 40) :
    Calls Tryz.prog 72 #[.pointer (some ⟨a, 0, none⟩), .string n] w (CreatePost w S a mb F s n.data.toList) := by
  obtain ⟨left, hw, _⟩ := h.head
  have c1 := hw.cell 1
  simp at c1
  have hW := own.new w #[.slice none 0 0, .int .i64 0] 123
  have hbW : Below w.heap.size w (w.alloc (.cells #[.slice none 0 0, .int .i64 0] 123)) := Below.alloc (Below.refl _ _) (Nat.le_refl _) _
  have hzW : (w.alloc (.cells #[.slice none 0 0, .int .i64 0] 123)).heap.size = w.heap.size + 1 := by simp
  have c1W := (hw.same (hbW.block a hw.lt)).cell 1
  simp at c1W
  have hupd : ∀ w1 : World, Below (w.heap.size + 1) (w.alloc (.cells #[.slice none 0 0, .int .i64 0] 123)) w1 → ∃ w2, (Instr.mapUpdate 103 (.map (some mb)) (.string n) (.pointer (some ⟨w.heap.size, 0, none⟩))).run Tryz.prog w1 = .ok () w2 ∧
      CreatePost w S a mb F s n.data.toList (.returned (.pointer (some ⟨w.heap.size, 0, none⟩))) w2 := by
    intro w1 hb1
    have hb1' : Below w.heap.size w w1 := hbW.trans (hb1.mono (by omega))
    have hz1 : w.heap.size < w1.heap.size := by have := hb1.size; omega
    have h1 : DiskRep w1 (grow S w w1) a mb F s := h.growBelow hb1'
    obtain ⟨w2, hrun, hown2, hturn⟩ := h1.map.store keyedStr Tryz.underlying103 (by unfold maxLen; omega) (keyStr n (by unfold maxLen; omega)) (ptrElem_ptr w.heap.size)
    have hc := mapTurned_chg hturn
    have hz2 := mapTurned_size hturn
    have hfile : FileOk w1 (freshFl n.data.toList w.heap.size) := ⟨hW.same (hb1.block _ (by omega)), ⟨rfl, .inl ⟨rfl, rfl⟩⟩, by simp [freshFl, Value.ownBlock]⟩
    have hfoot : ∀ b ∈ (freshFl n.data.toList w.heap.size).foot, b = w.heap.size := by intro b hb; simpa [Fl.foot, freshFl, Value.ownBlock] using hb
    have hnoA : fndK AF.key n.data.toList s.L = none := by rw [h.fnd, hno]; rfl
    have h2 : DiskRep w2 (grow S w w1) a mb (insK Fl.key (freshFl n.data.toList w.heap.size) F) { s with L := insK AF.key (freshFl n.data.toList w.heap.size).abs s.L } := by
      refine h1.put (x := freshFl n.data.toList w.heap.size) hno hfile (fun b hb hin => ?_) (fun b hb => ?_) (by unfold maxLen; omega) hown2 hc ?_
      · rw [hfoot b hb] at hin
        have := h.lt _ (h.inS _ hin)
        omega
      · rw [hfoot b hb]; exact .inr ⟨Nat.le_refl _, hz1⟩
      · refine Ok_ins h.ok (f := newF n.data.toList []) hname (Nat.zero_le _) (fndK_none hnoA) (by rw [← h.len]; exact hmany) ?_
        have := h.ok.room
        show (sz s.L : Int) + ((0 : Nat) : Int) ≤ s.most
        omega
    refine ⟨w2, hrun, rfl, ?_, ?_⟩
    · have : grow S w w1 = grow S w w2 := by funext b; unfold grow; rw [hz2]
      rw [← this]; exact h2
    · exact (Chg.of_below hb1').trans (hc.mono (T := fun b => b = mb) (fun x e => e)) (fun x e => .inl (by rw [e]; exact h.inM))
  have HU := hid hupd
  have haz : a < w.heap.size + 1 := by have := hw.lt; omega
  have hnil := fun wx => run_eql_map_nil wx 103 9 119 (some mb) Tryz.underlying103
  have hz : w.heap.size + 1 ≤ (w.alloc (.cells #[.slice none 0 0, .int .i64 0] 123)).heap.size := by rw [hzW]; exact Nat.le_refl _
  clear hupd h hno hw hbW hW hzW
  go_enter Tryz.func72, Tryz.ntmps72
  go_wp2
  go_region_with (go_at_call 132; (with_reducible refine (clone_any n _ hn).mono ?_); rintro e w1 ⟨rfl, hb1⟩; have hb1 := (Below.drew (Below.refl _ _)).trans (hb1.mono (B' := w.heap.size + 1) hz); have c1w := (hb1.cell (p := ⟨a, 1, none⟩) haz).trans c1W; obtain ⟨w2, hrun, hpost⟩ := HU.out w1 hb1; have HP := hid hpost; clear hpost)
  all_goals
    go_wp2
    go_ret
    exact HP.out

theorem spend_hid (w : World) (h : DiskRep w S a mb F s) (k : Int) (hk : spendV s.fuse = k) (s' : Dk) (hs : spendTo s = s') : Calls Tryz.prog 71 #[.pointer (some ⟨a, 0, none⟩)] w fun e w' =>
    e = .returned (.int .i64 k) ∧ DiskRep w' S a mb F s' ∧ Chg (fun b => b = a) w w' ∧ w'.heap.size = w.heap.size := by
  subst hk; subst hs
  exact spend_any h

theorem look_any (h : DiskRep w S a mb F s) {n : ByteArray} (hn : n.size ≤ maxLen) : ∃ v, (Instr.lookup 103 (.map (some mb)) (.string n) true).run Tryz.prog w = .ok (.tuple #[v, .bool (fndK Fl.key n.data.toList F).isSome]) w := by
  cases hx : fndK Fl.key n.data.toList F with
  | none => exact ⟨_, look_none h hn hx⟩
  | some x => exact ⟨_, look_some h hn hx⟩

/-- Append, past the checks of name and number: too long. -/
def LookIs (w : World) (mb : Nat) (n : ByteArray) (v : Value) (b : Bool) : Prop := (Instr.lookup 103 (.map (some mb)) (.string n) true).run Tryz.prog w = .ok (.tuple #[v, .bool b]) w
def LenIs (w : World) (mb : Nat) (b : Bool) : Prop := ∃ k : Int, (Builtin.len_ #[103] 3 #[.map (some mb)]).run Tryz.prog w = .ok (.int .i64 k) w ∧ (b = true ∨ k < 40)

set_option maxHeartbeats 2000000 in
theorem append_full (h : DiskRep w S a mb F s) (n d : ByteArray) (hn : n.size ≤ maxLen) (hd : d.size ≤ 140737488355328) (hdd : s.dead = false) (hnm : isName n.data.toList = true) (v : Value) (b : Bool)
    (hl0 : LookIs w mb n v b) (hlen0 : LenIs w mb b) (hfull : s.most - (sz s.L : Int) < d.size) :
    Calls Tryz.prog 30 #[.pointer (some ⟨a, 0, none⟩), .string n, .string d] w (OpPost w S a (s, 6)) := by
  obtain ⟨left, hw, _⟩ := h.head
  have c0 := hw.cell 0
  have c1 := hw.cell 1
  have c4 := hw.cell 4
  simp [hdd] at c0 c1 c4
  have hfin : ∀ w', Below w.heap.size w w' → OpPost w S a (s, 6) (.returned (.int .i64 6)) w' := fun w' hb => OpPost.none h hb rfl rfl
  have HF := hid hfin
  have HN := hid (fun w => by have := name_any n w hn; rwa [hnm] at this)
  have HZ := hid (fun w1 (hb : Below w.heap.size w w1) => size_any (h.below hb))
  have hm1 : s.most ≤ 10000000 := h.ok.most
  have hm2 : (sz s.L : Int) ≤ s.most := h.ok.room
  have hm3 : 0 ≤ (sz s.L : Int) := by omega
  have ha : a < w.heap.size := hw.lt
  have hq2 : decide ((d.size : Int) > s.most - (sz s.L : Int)) = true := by simpa using hfull
  unfold maxLen at hn
  unfold LookIs at hl0
  obtain ⟨k, hlen, hk⟩ := hlen0
  clear hfin hnm hdd h hw
  generalize (sz s.L : Int) = N at *
  have hW : IntKind.i64.wrap (s.most - N) = s.most - N := IntWalk.i64_in _ (by omega)
  generalize s.most = M at *
  have hkk : b = true ∨ (b = false ∧ decide (k ≥ 40) = false) := by
    rcases hk with hk | hk
    · exact .inl hk
    · cases b with
      | true => exact .inl rfl
      | false => exact .inr ⟨rfl, by simp; omega⟩
  clear hk
  rcases hkk with rfl | ⟨rfl, hkk⟩
  all_goals
    go_enter Tryz.func30, Tryz.ntmps30
    go_wp2_with (go_at_call 70; (with_reducible refine (HN.out _).mono ?_); rintro e w1 ⟨rfl, rfl⟩)
    go_region_held3 (fun wx => wx.cell? ⟨a, 0, none⟩ = some (.int .i64 M) ∧ Below w.heap.size w wx) (first | exact ⟨c0, Below.drew (Below.refl _ _)⟩ | exact ⟨hc3, hb3⟩ | go_keep)
      (first | (go_at_call 41; (with_reducible refine (HZ.out _ (And.right (by assumption))).mono ?_); rintro e w2 ⟨rfl, hb2⟩; have hb3 : Below w.heap.size w w2 := Below.trans (And.right (by assumption)) (hb2.mono (Below.size (And.right (by assumption)))); have hc3 := (hb3.cell (p := ⟨a, 0, none⟩) ha).trans c0))
    clear hW
    go_wp2
    go_ret
    exact HF.out _ (And.right (by assumption))


/-- 'f.data = append(f.data, data...)' at a file of the disk. -/
theorem add_tail (h : DiskRep w S a mb F s) {n : List UInt8} {x : Fl} (hx : fndK Fl.key n F = some x) (d : ByteArray) (hroom : (sz s.L : Int) + d.size ≤ s.most) (ty : TypeId) :
    ∃ ao nn cap w4 v', v' = .slice ao nn cap ∧ (Builtin.append_ #[93, 9] ty #[x.v, .string d]).run Tryz.prog w = .ok v' w4 ∧ w4.cell? ⟨x.g, 0, none⟩ = some x.v ∧ w4.frozen? ⟨x.g, 0, none⟩ = false ∧
      (∃ F', DiskRep (w4.setCell ⟨x.g, 0, none⟩ v') (grow S w (w4.setCell ⟨x.g, 0, none⟩ v')) a mb F' { s with L := updK AF.key n (addF d.data.toList) s.L }) ∧ Chg S w (w4.setCell ⟨x.g, 0, none⟩ v') := by
  obtain ⟨hxm, hxn⟩ := fndK_some hx
  have hf := h.files x hxm
  have hlen : x.data.length ≤ sz s.L := by
    have : x.abs ∈ s.L := by rw [h.abs]; exact List.mem_map.2 ⟨x, hxm, rfl⟩
    exact sz_mem this
  have hmost := h.ok.most
  obtain ⟨v', w4, hr, hrow, hg, hblk⟩ := run_app_str w ty x.v x.data hf.row d (by omega)
  have hxg : x.g < w.heap.size := hf.blk.lt
  have hb4 : own w4 x.g #[x.v, .int .i64 x.synced] 123 := hf.blk.same (hg.block x.g hxg (fun e => hf.apart e.symm))
  have hc4 : Chg (fun b => b ∈ x.foot) w w4 := (Chg.of_grown hg).mono (fun b e => by simp [Fl.foot, e])
  have hv'g : v'.ownBlock ≠ some x.g := fun e => by
    rcases hblk x.g e with h1 | h1
    · exact hf.apart h1
    · omega
  have hb5 := hb4.set 0 v'
  have hc5 : Chg (fun b => b ∈ x.foot) w (w4.setCell ⟨x.g, 0, none⟩ v') := hc4.trans (Chg.setCell w4 ⟨x.g, 0, none⟩ v') (fun b e => .inl (by simp [Fl.foot, show b = x.g from e]))
  have hrow5 : Bytes (w4.setCell ⟨x.g, 0, none⟩ v') 0 v' (x.data ++ d.data.toList) := ownsRow_same hrow (fun b hb => Below.heap_setCell _ _ _ _ (fun e => hv'g (by rw [hb, e])))
  have hS : ∀ b ∈ x.foot, S b := fun b hb => h.inS b (by simp only [List.mem_cons, List.mem_flatMap]; exact .inr (.inr ⟨x, hxm, hb⟩))
  obtain ⟨ao, cap, hsl⟩ := bytes_slice hrow
  refine ⟨ao, _, cap, w4, v', hsl, hr, by rw [hb4.cell 0]; rfl, hb4.frozen 0, ?_, hc5.mono hS⟩
  have := h.set (x' := { x with data := x.data ++ d.data.toList, v := v' }) hx rfl rfl (H := addF d.data.toList) rfl (fun _ => rfl) ⟨by simpa using hb5, hrow5, hv'g⟩ hc5 ?_ ?_
  · obtain ⟨F', h1, _⟩ := this
    exact ⟨F', h1⟩
  · intro b hb
    simp only [Fl.foot, List.mem_cons, Option.mem_toList] at hb ⊢
    rcases hb with rfl | hb
    · exact .inl (.inl rfl)
    · rcases hblk b hb with h1 | h1
      · exact .inl (.inr h1)
      · exact .inr h1
  · exact Ok_upd h.ok d.size (fun _ => rfl) (fun f hf => by simp [addF]; omega) (fun f => by simp [addF]) hroom

theorem upd_ins {n d : List UInt8} {L : List AF} (hno : fndK AF.key n L = none) : updK AF.key n (addF d) (insK AF.key (newF n []) L) = insK AF.key (newF n d) L := by
  have hne := fndK_none hno
  clear hno
  induction L with
  | nil => simp [insK, updK, newF, addF]
  | cons x r ih =>
    have hx := hne x (by simp)
    unfold insK
    have hr : updK AF.key n (addF d) (x :: r) = x :: r := by
      unfold updK
      conv => rhs; rw [← List.map_id (x :: r)]
      apply List.map_congr_left
      intro y hy
      rw [if_neg (hne y hy)]; rfl
    by_cases h : AF.key (newF n []) < AF.key x
    · rw [if_pos h, if_pos (show AF.key (newF n d) < AF.key x from h)]
      show (if AF.key (newF n []) = n then addF d (newF n []) else newF n []) :: updK AF.key n (addF d) (x :: r) = _
      rw [hr, if_pos (show AF.key (newF n []) = n from rfl)]; rfl
    · rw [if_neg h, if_neg (show ¬ AF.key (newF n d) < AF.key x from h)]
      show (if AF.key x = n then addF d x else x) :: updK AF.key n (addF d) (insK AF.key (newF n []) r) = _
      rw [if_neg hx, ih (fun y hy => hne y (by simp [hy]))]
end
end Go.Proofs.YtpcafkinpkepcaaGreatDoor

