import Derived.Test.YtpcafkinpkepcaaGreatDoorWq14
import Derived.Test.YtpcafkinpkepcaaGreatDoorProg
import Derived.Shelf.SlIter.Nil
import Derived.Shelf.SortM.Plain
import Derived.Shelf.SortM.SortNone
/-
  Wq15: DkA, KeysLay, in one text.
-/
/-
  LAYER 2 (disk), the program's small calls: Name, at, Dead, Fuse, spend, find, hasTail.
-/
namespace Go.Proofs.YtpcafkinpkepcaaGreatDoor
open Go.RowKit Go.Maps
set_option linter.unusedVariables false
set_option maxRecDepth 100000

theorem isName_bad {s : ByteArray} {k : Nat} (hk : k < s.size) (h : nameByte (s[k]'hk) = false) : isName s.data.toList = false := by
  unfold isName
  have : s.data.toList.all nameByte = false := by
    rw [List.all_eq_false]
    exact ⟨s[k], by rw [show s[k] = s.data.toList[k]'(by simpa using hk) from rfl]; exact List.getElem_mem _, by rw [h]; simp⟩
  rw [this]; simp
theorem all_snoc {s : ByteArray} {k : Nat} (hk : k < s.size) (h : (s.data.toList.take k).all nameByte = true) (hc : nameByte (s[k]'hk) = true) : (s.data.toList.take (k + 1)).all nameByte = true := by
  rw [List.take_succ_eq_append_getElem (by simpa using hk), List.all_append, h]
  simp
  exact hc
theorem isName_all {s : ByteArray} (h : (s.data.toList.take s.size).all nameByte = true) : isName s.data.toList = (decide (1 ≤ s.size) && decide (s.size ≤ 24)) := by
  unfold isName
  rw [List.take_of_length_le (by rw [str_len]; exact Nat.le_refl _)] at h
  rw [h, str_len]
  simp [Bool.decide_and]
theorem ret_bool {a b : Bool} (h : a = b) : Ending.returned (.bool a) = .returned (.bool b) := by rw [h]

theorem nameByte_cases (c : UInt8) : (nameByte c = true ∧ ((97 ≤ (c.toNat : Int) ∧ (c.toNat : Int) ≤ 122) ∨ (48 ≤ (c.toNat : Int) ∧ (c.toNat : Int) ≤ 57))) ∨
    (nameByte c = false ∧ ((c.toNat : Int) < 48 ∨ (57 < (c.toNat : Int) ∧ (c.toNat : Int) < 97) ∨ 122 < (c.toNat : Int))) := by
  unfold nameByte
  by_cases h : 97 ≤ (c.toNat : Int) ∧ (c.toNat : Int) ≤ 122 ∨ 48 ≤ (c.toNat : Int) ∧ (c.toNat : Int) ≤ 57
  · exact .inl ⟨by simp only [h, decide_true], h⟩
  · exact .inr ⟨by simp only [h, decide_false], by omega⟩

set_option maxHeartbeats 1000000 in
theorem name_any (s : ByteArray) (w : World) (hs : s.size ≤ maxLen) :
    Calls Tryz.prog 70 #[.string s] w fun e w' => e = .returned (.bool (isName s.data.toList)) ∧ w = w' := by
  unfold maxLen at hs
  go_enter Tryz.func70, Tryz.ntmps70
  go_wp2
  go_loop [7] (fun i => ∃ k : Nat, k ≤ s.size ∧ i = .int .i64 k ∧ Hid ((s.data.toList.take k).all nameByte = true)) (fun i => s.size - (intOf i).toNat)
  case atStart => exact ⟨0, Nat.zero_le _, rfl, hid (by simp)⟩
  case round =>
    obtain ⟨k, hk, rfl, hall⟩ := hrel
    by_cases hlt : k < s.size
    · have hc := nameByte_cases s[k]
      have hb : (s[k].toNat : Int) < 256 := by have := UInt8.toNat_lt s[k]; omega
      rcases hc with ⟨hc, h⟩ | ⟨hc, h⟩
      · have H := hid hc
        clear hc
        rcases h with ⟨h1, h2⟩ | ⟨h1, h2⟩
        · go_wp2
          go_round
          case rel => exact ⟨k + 1, by omega, by go_num, hid (all_snoc hlt hall.out H.out)⟩
          case measure => simp [intOf]; omega
        · have h3 : (s[k].toNat : Int) < 97 := by omega
          go_wp2
          go_round
          case rel => exact ⟨k + 1, by omega, by go_num, hid (all_snoc hlt hall.out H.out)⟩
          case measure => simp [intOf]; omega
      · have H := hid hc
        clear hc
        rcases h with h | ⟨h1, h2⟩ | h
        · go_wp2
          go_ret
          exact ⟨ret_bool (isName_bad hlt H.out).symm, rfl⟩
        · have d1 : decide ((s[k].toNat : Int) ≤ 57) = false := by simp; omega
          go_wp2
          go_ret
          exact ⟨ret_bool (isName_bad hlt H.out).symm, rfl⟩
        · have d1 : decide ((s[k].toNat : Int) ≤ 57) = false := by simp; omega
          have d2 : decide ((s[k].toNat : Int) ≤ 122) = false := by simp; omega
          have d3 : decide (97 ≤ (s[k].toNat : Int)) = true := by simp; omega
          have d4 : decide (48 ≤ (s[k].toNat : Int)) = true := by simp; omega
          go_wp2
          go_ret
          exact ⟨ret_bool (isName_bad hlt H.out).symm, rfl⟩
    · obtain rfl : k = s.size := by omega
      have hfin := hid (isName_all hall.out)
      by_cases h1 : 1 ≤ s.size
      · have d1 : decide (1 ≤ (s.size : Int)) = true := by simp; omega
        by_cases h2 : s.size ≤ 24
        · have d2 : decide ((s.size : Int) ≤ 24) = true := by simp; omega
          go_wp2
          go_ret
          exact ⟨ret_bool (by rw [hfin.out]; simp [h1, h2]), rfl⟩
        · have d2 : decide ((s.size : Int) ≤ 24) = false := by simp; omega
          go_wp2
          go_ret
          exact ⟨ret_bool (by rw [hfin.out]; simp [h2]), rfl⟩
      · have d1 : decide (1 ≤ (s.size : Int)) = false := by simp; omega
        go_wp2
        go_ret
        exact ⟨ret_bool (by rw [hfin.out]; simp [h1]), rfl⟩

def spendV (f : Int) : Int := if f = 0 then 7 else 0
def ticked (s : Dk) : Dk := { s with fuse := if 0 < s.fuse then s.fuse - 1 else s.fuse }
def spendTo (s : Dk) : Dk := if s.fuse = 0 then { s with dead := true } else ticked s
def FindV (s : Dk) (F : List Fl) (n : List UInt8) : Value := if s.dead then .tuple #[.pointer none, .int .i64 7] else match fndK Fl.key n F with | none => .tuple #[.pointer none, .int .i64 4] | some x => .tuple #[x.ptr, .int .i64 0]
theorem spends_eq (s : Dk) (k : Dk → Dk) : spends s k = if s.fuse = 0 then (spendTo s, 7) else (k (ticked s), 0) := by
  unfold spends spendTo ticked
  split <;> rfl

section
variable {w w' : World} {S : Nat → Prop} {a mb : Nat} {F : List Fl} {s : Dk}

theorem dead_any (h : DiskRep w S a mb F s) : Calls Tryz.prog 20 #[.pointer (some ⟨a, 0, none⟩)] w fun e w' => e = .returned (.bool s.dead) ∧ w = w' := by
  obtain ⟨left, hw, _⟩ := h.head
  have c4 := hw.cell 4
  simp at c4
  go_enter Tryz.func20, Tryz.ntmps20
  go_wp2
  go_ret
  exact ⟨rfl, rfl⟩

/-- What 'spend' leaves: what the rest of the call goes on from. -/
theorem spend_any (h : DiskRep w S a mb F s) : Calls Tryz.prog 71 #[.pointer (some ⟨a, 0, none⟩)] w fun e w' =>
    e = .returned (.int .i64 (spendV s.fuse)) ∧ DiskRep w' S a mb F (spendTo s) ∧ Chg (fun b => b = a) w w' ∧ w'.heap.size = w.heap.size := by
  obtain ⟨left, hw, hl⟩ := h.head
  have hf := h.ok.fuse
  by_cases h0 : 0 ≤ s.fuse
  · have hb : decide (0 ≤ s.fuse) = true := by simpa using h0
    have hl' := hl h0
    subst hl'
    by_cases h1 : s.fuse = 0
    · have c2 := hw.cell 2
      have c3 := hw.cell 3
      have c4 := hw.cell 4
      have f4 := hw.frozen 4
      rw [hb] at c2
      rw [h1] at c3
      simp at c2 c3 c4
      have hset := hw.set 4 (.bool true)
      have hc := Chg.setCell w ⟨a, 4, none⟩ (.bool true)
      have hz := setCell_size w ⟨a, 4, none⟩ (.bool true)
      have hD : DiskRep (w.setCell ⟨a, 4, none⟩ (.bool true)) S a mb F { s with dead := true } := h.turn (fu := s.fuse) (left := s.fuse) (dd := true) (by simpa using hset) (fun _ => rfl) hc hf
      have hv : spendTo s = { s with dead := true } := if_pos h1
      have hv2 : spendV s.fuse = 7 := if_pos h1
      rw [← hv] at hD
      have H := hid (show _ ∧ _ ∧ _ from ⟨hD, hc, hz⟩)
      have H1 := hid hv2
      clear hset hc hz hD h1 hb hw h hf hl h0 hv hv2
      generalize spendTo s = s' at *
      go_enter Tryz.func71, Tryz.ntmps71
      go_wp2
      go_ret
      rw [H1.out]
      exact ⟨rfl, H.out.1, H.out.2.1, H.out.2.2⟩
    · have c2 := hw.cell 2
      have c3 := hw.cell 3
      have f3 := hw.frozen 3
      rw [hb] at c2
      simp at c2 c3
      have hset := hw.set 3 (.int .i64 (s.fuse - 1))
      have hc := Chg.setCell w ⟨a, 3, none⟩ (.int .i64 (s.fuse - 1))
      have hz := setCell_size w ⟨a, 3, none⟩ (.int .i64 (s.fuse - 1))
      have hb2 : decide (0 ≤ s.fuse - 1) = true := by simp; omega
      have hD : DiskRep (w.setCell ⟨a, 3, none⟩ (.int .i64 (s.fuse - 1))) S a mb F { s with fuse := if 0 < s.fuse then s.fuse - 1 else s.fuse } := by
        rw [if_pos (by omega)]
        exact h.turn (fu := s.fuse - 1) (left := s.fuse - 1) (dd := s.dead) (by rw [hb2]; rw [hb] at hset; simpa using hset) (fun _ => rfl) hc (by omega)
      have hv : spendTo s = { s with fuse := if 0 < s.fuse then s.fuse - 1 else s.fuse } := if_neg h1
      have hv2 : spendV s.fuse = 0 := if_neg h1
      rw [← hv] at hD
      have H := hid (show _ ∧ _ ∧ _ from ⟨hD, hc, hz⟩)
      have H1 := hid hv2
      have hp : 0 < s.fuse := by omega
      have hq : s.fuse ≤ 9223372036854775807 := hf.2
      clear hset hc hz hD h1 hb hw h hf hl h0 hb2 hv hv2
      generalize spendTo s = s' at *
      generalize s.fuse = z at *
      go_enter Tryz.func71, Tryz.ntmps71
      go_wp2
      go_ret
      rw [H1.out]
      exact ⟨rfl, H.out.1, H.out.2.1, H.out.2.2⟩
  · have hb : decide (0 ≤ s.fuse) = false := by simpa using h0
    have c2 := hw.cell 2
    rw [hb] at c2
    simp at c2
    have h1 : ¬ s.fuse = 0 := by omega
    have h2 : ¬ 0 < s.fuse := by omega
    have hs : spendTo s = s := by unfold spendTo ticked; rw [if_neg h1, if_neg h2]
    have hs2 : spendV s.fuse = 0 := if_neg h1
    rw [hs, hs2]
    have H := hid h
    clear hb hw h hf hl h0 h1 h2 hs hs2
    go_enter Tryz.func71, Tryz.ntmps71
    go_wp2
    go_ret
    exact ⟨rfl, H.out, Chg.refl _ _, rfl⟩

theorem keyedStr : Keyed Tryz.prog 9 := string_keyed Tryz.underlying9
theorem keyStr (n : ByteArray) (hn : n.size ≤ maxLen) : keyOf Tryz.prog 9 (.string n) = some (.string n.data.toList) := Go.WideMaps.keyOf_string_mk Tryz.underlying9 hn
theorem zeroPtr (w : World) : (zeroValue 119).run Tryz.prog w = .ok (.pointer none) w := by kernel_rfl

/-- The look-up 'd.files[name]', the two ways. -/
theorem look_some (h : DiskRep w S a mb F s) {n : ByteArray} (hn : n.size ≤ maxLen) {x : Fl} (hx : fndK Fl.key n.data.toList F = some x) :
    (Instr.lookup 103 (.map (some mb)) (.string n) true).run Tryz.prog w = .ok (.tuple #[x.ptr, .bool true]) w := by
  obtain ⟨v, ps, hrun, hv⟩ := h.map.look_ok keyedStr Tryz.underlying103 (zeroPtr w) (zd := .nil) (zp := []) rfl (keyStr n hn)
  rw [has_ent, hx] at hrun
  rw [atKey_ent, hx] at hv
  obtain rfl := ptrElem_inv hv
  exact hrun
theorem look_none (h : DiskRep w S a mb F s) {n : ByteArray} (hn : n.size ≤ maxLen) (hx : fndK Fl.key n.data.toList F = none) :
    (Instr.lookup 103 (.map (some mb)) (.string n) true).run Tryz.prog w = .ok (.tuple #[.pointer none, .bool false]) w := by
  obtain ⟨v, ps, hrun, hv⟩ := h.map.look_ok keyedStr Tryz.underlying103 (zeroPtr w) (zd := .nil) (zp := []) rfl (keyStr n hn)
  rw [has_ent, hx] at hrun
  rw [atKey_ent, hx] at hv
  obtain rfl := ptrElem_nil hv
  exact hrun

theorem find_any (h : DiskRep w S a mb F s) (n : ByteArray) (hn : n.size ≤ maxLen) : Calls Tryz.prog 131 #[.pointer (some ⟨a, 0, none⟩), .string n] w fun e w' =>
    e = .returned (FindV s F n.data.toList) ∧ w = w' := by
  obtain ⟨left, hw, _⟩ := h.head
  have c4 := hw.cell 4
  have c1 := hw.cell 1
  simp at c4 c1
  cases hd : s.dead with
  | true =>
    rw [hd] at c4
    have hv : FindV s F n.data.toList = .tuple #[.pointer none, .int .i64 7] := by unfold FindV; rw [hd]; rfl
    rw [hv]
    clear hd hv
    go_enter Tryz.func131, Tryz.ntmps131
    go_wp2
    go_ret2
    exact ⟨rfl, rfl⟩
  | false =>
    rw [hd] at c4
    cases hx : fndK Fl.key n.data.toList F with
    | none =>
      have hl := look_none h hn hx
      have hv : FindV s F n.data.toList = .tuple #[.pointer none, .int .i64 4] := by unfold FindV; rw [hd, hx]; rfl
      rw [hv]
      clear hd hx hv
      go_enter Tryz.func131, Tryz.ntmps131
      go_wp2
      go_ret2
      exact ⟨rfl, rfl⟩
    | some x =>
      have hl := look_some h hn hx
      have hv : FindV s F n.data.toList = .tuple #[x.ptr, .int .i64 0] := by unfold FindV; rw [hd, hx]; rfl
      rw [hv]
      clear hd hx hv
      unfold Fl.ptr at *
      go_enter Tryz.func131, Tryz.ntmps131
      go_wp2
      go_ret2
      exact ⟨rfl, rfl⟩
end
end Go.Proofs.YtpcafkinpkepcaaGreatDoor

/-
  slices.Sorted(maps.Keys(m)) at the disk's map: the library's contracts, laid (the tables of numbers in plain words).
-/
namespace Go.Proofs.YtpcafkinpkepcaaGreatDoor
open Go.Shelf
set_option maxRecDepth 100000
def Tryz.keysA_ren : Go.Shelf.Ren := ⟨fun | 7 => 126 | 10 => 170 | n => n, fun | 23 => 103 | 26 => 9 | 3 => 119 | 28 => 153 | 0 => 0 | 27 => 152 | 33 => 114 | 4 => 4 | n => n, fun | n => n⟩
theorem Tryz.keysA : Go.Proofs.SlLaysZ.n7 Tryz.prog Tryz.keysA_ren := {
  mixed := by kernel_rfl
  f7 := ⟨Tryz.f126.name, by decide, Tryz.func126.trans (congrArg some (by kernel_rfl))⟩
  f10 := ⟨Tryz.f170.name, by decide, Tryz.func170.trans (congrArg some (by kernel_rfl))⟩
  t0 := Tryz.underlying0
  a0 := Tryz.isAgg0
  z0 := Tryz.sizeOf0
  v0 := Tryz.zeroValue0
  t4 := Tryz.underlying4
  a4 := Tryz.isAgg4
  z4 := Tryz.sizeOf4
  v4 := Tryz.zeroValue4
  t23 := Tryz.underlying103
  a23 := Tryz.isAgg103
  z23 := Tryz.sizeOf103
  v23 := Tryz.zeroValue103
  t26 := Tryz.underlying9
  a26 := Tryz.isAgg9
  z26 := Tryz.sizeOf9
  v26 := Tryz.zeroValue9
  t27 := Tryz.underlying152
  a27 := Tryz.isAgg152
  z27 := Tryz.sizeOf152
  v27 := Tryz.zeroValue152
  t28 := Tryz.underlying153
  a28 := Tryz.isAgg153
  z28 := Tryz.sizeOf153
  v28 := Tryz.zeroValue153
  t33 := Tryz.underlying114
  a33 := Tryz.isAgg114
  z33 := Tryz.sizeOf114
  v33 := Tryz.zeroValue114 }
def Tryz.sortedA_ren : Go.Shelf.Ren := ⟨fun | 6 => 125 | 8 => 168 | 9 => 169 | 11 => 200 | 13 => 129 | 12 => 201 | 23 => 180 | 24 => 181 | 14 => 216 | 15 => 217 | 16 => 218 | 17 => 219 | 18 => 220 | 19 => 221 | 20 => 222 | 21 => 223 | 22 => 224 | 25 => 236 | 26 => 205 | 27 => 206 | 28 => 237 | 29 => 238 | 30 => 239 | 31 => 246 | n => n, fun | 26 => 9 | 28 => 153 | 24 => 47 | 0 => 0 | 3 => 3 | 37 => 178 | 48 => 204 | 50 => 216 | 4 => 4 | 40 => 209 | 39 => 208 | 45 => 124 | 5 => 5 | 9 => 9 | 51 => 236 | 55 => 240 | 57 => 259 | 58 => 260 | 33 => 114 | n => n, fun | n => n⟩
theorem Tryz.sortedA : Go.Proofs.SlLaysZ.n6 Tryz.prog Tryz.sortedA_ren := {
  mixed := by kernel_rfl
  f6 := ⟨Tryz.f125.name, by decide, Tryz.func125.trans (congrArg some (by kernel_rfl))⟩
  f8 := ⟨Tryz.f168.name, by decide, Tryz.func168.trans (congrArg some (by kernel_rfl))⟩
  f11 := ⟨Tryz.f200.name, by decide, Tryz.func200.trans (congrArg some (by kernel_rfl))⟩
  t0 := Tryz.underlying0
  a0 := Tryz.isAgg0
  z0 := Tryz.sizeOf0
  v0 := Tryz.zeroValue0
  t24 := Tryz.underlying47
  a24 := Tryz.isAgg47
  z24 := Tryz.sizeOf47
  v24 := Tryz.zeroValue47
  t26 := Tryz.underlying9
  a26 := Tryz.isAgg9
  z26 := Tryz.sizeOf9
  v26 := Tryz.zeroValue9
  t28 := Tryz.underlying153
  a28 := Tryz.isAgg153
  z28 := Tryz.sizeOf153
  v28 := Tryz.zeroValue153
  i26 := by kernel_rfl }
def Tryz.sortA_ren : Go.Shelf.Ren := ⟨fun | 6 => 169 | 8 => 129 | 9 => 201 | 19 => 180 | 20 => 181 | 21 => 216 | 22 => 217 | 23 => 218 | 24 => 219 | 25 => 220 | 26 => 221 | 27 => 222 | 28 => 223 | 29 => 224 | 36 => 236 | 31 => 205 | 32 => 206 | 37 => 237 | 38 => 238 | 39 => 239 | 41 => 246 | n => n, fun | 27 => 47 | 29 => 9 | 3 => 3 | 32 => 178 | 26 => 47 | 0 => 0 | 44 => 204 | 46 => 216 | 4 => 4 | 36 => 209 | 35 => 208 | 41 => 124 | 5 => 5 | 9 => 9 | 53 => 236 | 57 => 240 | 63 => 259 | 64 => 260 | n => n, fun | n => n⟩
theorem Tryz.sortA : Go.Proofs.SlLaysM.n6 Tryz.prog Tryz.sortA_ren := {
  mixed := by kernel_rfl
  f6 := ⟨Tryz.f169.name, by decide, Tryz.func169.trans (congrArg some (by kernel_rfl))⟩
  f8 := Tryz.func129.trans (congrArg some (by kernel_rfl))
  f9 := ⟨Tryz.f201.name, by decide, Tryz.func201.trans (congrArg some (by kernel_rfl))⟩
  f19 := Tryz.func180.trans (congrArg some (by kernel_rfl))
  f20 := Tryz.func181.trans (congrArg some (by kernel_rfl))
  f21 := ⟨Tryz.f216.name, by decide, Tryz.func216.trans (congrArg some (by kernel_rfl))⟩
  f22 := ⟨Tryz.f217.name, by decide, Tryz.func217.trans (congrArg some (by kernel_rfl))⟩
  f23 := ⟨Tryz.f218.name, by decide, Tryz.func218.trans (congrArg some (by kernel_rfl))⟩
  f24 := ⟨Tryz.f219.name, by decide, Tryz.func219.trans (congrArg some (by kernel_rfl))⟩
  f25 := ⟨Tryz.f220.name, by decide, Tryz.func220.trans (congrArg some (by kernel_rfl))⟩
  f26 := ⟨Tryz.f221.name, by decide, Tryz.func221.trans (congrArg some (by kernel_rfl))⟩
  f27 := ⟨Tryz.f222.name, by decide, Tryz.func222.trans (congrArg some (by kernel_rfl))⟩
  f28 := ⟨Tryz.f223.name, by decide, Tryz.func223.trans (congrArg some (by kernel_rfl))⟩
  f29 := ⟨Tryz.f224.name, by decide, Tryz.func224.trans (congrArg some (by kernel_rfl))⟩
  f31 := Tryz.func205.trans (congrArg some (by kernel_rfl))
  f32 := Tryz.func206.trans (congrArg some (by kernel_rfl))
  f36 := ⟨Tryz.f236.name, by decide, Tryz.func236.trans (congrArg some (by kernel_rfl))⟩
  f37 := ⟨Tryz.f237.name, by decide, Tryz.func237.trans (congrArg some (by kernel_rfl))⟩
  f38 := ⟨Tryz.f238.name, by decide, Tryz.func238.trans (congrArg some (by kernel_rfl))⟩
  f39 := ⟨Tryz.f239.name, by decide, Tryz.func239.trans (congrArg some (by kernel_rfl))⟩
  f41 := ⟨Tryz.f246.name, by decide, Tryz.func246.trans (congrArg some (by kernel_rfl))⟩
  t0 := Tryz.underlying0
  a0 := Tryz.isAgg0
  z0 := Tryz.sizeOf0
  v0 := Tryz.zeroValue0
  t3 := Tryz.underlying3
  a3 := Tryz.isAgg3
  z3 := Tryz.sizeOf3
  v3 := Tryz.zeroValue3
  t4 := Tryz.underlying4
  a4 := Tryz.isAgg4
  z4 := Tryz.sizeOf4
  v4 := Tryz.zeroValue4
  t5 := Tryz.underlying5
  a5 := Tryz.isAgg5
  z5 := Tryz.sizeOf5
  v5 := Tryz.zeroValue5
  t9 := Tryz.underlying9
  a9 := Tryz.isAgg9
  z9 := Tryz.sizeOf9
  v9 := Tryz.zeroValue9
  t26 := Tryz.underlying47
  a26 := Tryz.isAgg47
  z26 := Tryz.sizeOf47
  v26 := Tryz.zeroValue47
  t27 := Tryz.underlying47
  a27 := Tryz.isAgg47
  z27 := Tryz.sizeOf47
  v27 := Tryz.zeroValue47
  t29 := Tryz.underlying9
  a29 := Tryz.isAgg9
  z29 := Tryz.sizeOf9
  v29 := Tryz.zeroValue9
  t32 := Tryz.underlying178
  a32 := Tryz.isAgg178
  z32 := Tryz.sizeOf178
  v32 := Tryz.zeroValue178
  t35 := Tryz.underlying208
  a35 := Tryz.isAgg208
  z35 := Tryz.sizeOf208
  v35 := Tryz.zeroValue208
  t36 := Tryz.underlying209
  a36 := Tryz.isAgg209
  z36 := Tryz.sizeOf209
  v36 := Tryz.zeroValue209
  t41 := Tryz.underlying124
  a41 := Tryz.isAgg124
  z41 := Tryz.sizeOf124
  v41 := Tryz.zeroValue124
  t44 := Tryz.underlying204
  a44 := Tryz.isAgg204
  z44 := Tryz.sizeOf204
  v44 := Tryz.zeroValue204
  t46 := Tryz.underlying216
  a46 := Tryz.isAgg216
  z46 := Tryz.sizeOf216
  v46 := Tryz.zeroValue216
  t53 := Tryz.underlying236
  a53 := Tryz.isAgg236
  z53 := Tryz.sizeOf236
  v53 := Tryz.zeroValue236
  t57 := Tryz.underlying240
  a57 := Tryz.isAgg240
  z57 := Tryz.sizeOf240
  v57 := Tryz.zeroValue240
  t63 := Tryz.underlying259
  a63 := Tryz.isAgg259
  z63 := Tryz.sizeOf259
  v63 := Tryz.zeroValue259
  t64 := Tryz.underlying260
  a64 := Tryz.isAgg260
  z64 := Tryz.sizeOf260
  v64 := Tryz.zeroValue260 }

end Go.Proofs.YtpcafkinpkepcaaGreatDoor

