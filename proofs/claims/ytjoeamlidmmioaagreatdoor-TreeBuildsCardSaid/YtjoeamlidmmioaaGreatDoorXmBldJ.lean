import Derived.Test.YtjoeamlidmmioaaGreatDoorMq0J
import Derived.Lib.AppendStr
import Derived.Lib.UnsafeStr
/-
  LAYER 11 (xml): THE READER's BLOCK: its cells (what is left of the text, a strings.Builder at cell 1, the tokens' row), and what the Builder's calls do in it.
-/
namespace Go.Proofs.YtjoeamlidmmioaaGreatDoor
open Go.RowKit
set_option linter.unusedVariables false
set_option maxRecDepth 100000

/-- Where the row lies behind an append of a string: where it lay, or in the block that is made. -/
theorem append_str_block {w w' : World} {base : Nat} {v v' : Value} {n : Nat} {xs : List Value} {s : ByteArray} {ty : TypeId} (hown : w.ownsRow base 5 1 v n xs) (h63 : n + s.size ≤ maxLen) (hbytes : n + s.size ≤ 140737488355328)
    (hr : (Builtin.append_ #[70, 9] ty #[v, .string s]).run Tryz.prog w = .ok v' w') : v'.ownBlock = v.ownBlock ∨ v'.ownBlock = some w.heap.size := by
  obtain ⟨i0, hi, hz0, hz1, hz2⟩ := infoByte_parts
  have hxl : xs.length = n := by simpa using hown.1
  rcases hown.2 with ⟨rfl, rfl⟩ | ⟨g, cap, cur, rfl, hbg, hg, hnc, hcm, hcs, htake⟩
  · by_cases hm : s.size = 0
    · have hf := Lib.run_firstCells_string (P := Tryz.prog) w 1 s
      rw [hm] at hf
      have : (Builtin.append_ #[70, 9] ty #[.slice none 0 0, .string s]).run Tryz.prog w = .ok (.slice none 0 0) w := by
        simp [Builtin.append_, run_underlying Tryz.underlying70, run_underlying Tryz.underlying9, sizeOf, typeInfo, hi, hz1, Builtin.lenOf, hm, hf]
      rw [this] at hr
      cases hr
      exact .inl rfl
    · have hr2 := run_append_nil_string (P := Tryz.prog) w 70 9 ty 5 i0 (.int .u8 0) Tryz.underlying70 Tryz.underlying9 hi hz0 s (by omega) (by omega) (by rw [hz2]; omega)
      rw [hr2] at hr
      cases hr
      exact .inr rfl
  · by_cases hroom : n + s.size ≤ cap
    · have hr2 := Lib.run_append_room_string (P := Tryz.prog) w 70 9 ty 5 i0 Tryz.underlying70 Tryz.underlying9 hi hz1 g n cap cur hg s hroom (by rw [show cur.size = cap by simpa using hcs]; exact hroom)
      rw [hr2] at hr
      cases hr
      exact .inl rfl
    · have holds : ∀ j u, xs[j]? = some u → w.cell? ((⟨g, 0, none⟩ : Addr).add j) = some u := World.ownsRow.cells hown (g := g) rfl
      have hr2 := Lib.run_append_grow_string (P := Tryz.prog) w 70 9 ty 5 i0 (.int .u8 0) Tryz.underlying70 Tryz.underlying9 hi hz0 ⟨g, 0, none⟩ n cap xs (by rw [hz1]; simpa using hxl) holds s (by omega) (by simp only [maxLen] at h63; omega) (by rw [hz2]; exact growslice_fits (by omega) (by omega))
      rw [hr2] at hr
      cases hr
      exact .inr rfl

/-- The reader's block. -/
structure RdAt (w : World) (b : Nat) (rest : ByteArray) (p v tv : Value) (l : List UInt8) : Prop where
  blk : own w b #[.string rest, p, v, tv] 74
  ptr : p = .pointer none ∨ p = .pointer (some ⟨b, 1, none⟩)
  row : w.ownsRow 0 5 1 v l.length (Lib.byteCells l)
  apart : v.ownBlock ≠ some b
theorem ownsRow_lt {w : World} {e : TypeId} {v : Value} {n k : Nat} {xs : List Value} {B : Nat} (h : w.ownsRow B e n v k xs) : ∀ g, v.ownBlock = some g → g < w.heap.size := fun g hg => (World.ownsRow.lt h g hg).2
theorem RdAt.cells {w : World} {b : Nat} {rest : ByteArray} {p v tv : Value} {l : List UInt8} (h : RdAt w b rest p v tv l) :
    w.cell? ⟨b, 0, none⟩ = some (.string rest) ∧ w.cell? ⟨b, 1, none⟩ = some p ∧ w.cell? ⟨b, 2, none⟩ = some v ∧ w.cell? ⟨b, 3, none⟩ = some tv ∧ ∀ k, w.frozen? ⟨b, k, none⟩ = false :=
  ⟨by rw [h.blk.cell]; rfl, by rw [h.blk.cell]; rfl, by rw [h.blk.cell]; rfl, by rw [h.blk.cell]; rfl, fun k => h.blk.frozen k⟩
theorem RdAt.lt {w : World} {b : Nat} {rest : ByteArray} {p v tv : Value} {l : List UInt8} (h : RdAt w b rest p v tv l) : b < w.heap.size := h.blk.lt
/-- Other blocks have turned. -/
theorem RdAt.chg {w w' : World} {S : Nat → Prop} {b : Nat} {rest : ByteArray} {p v tv : Value} {l : List UInt8} (h : RdAt w b rest p v tv l) (hc : Chg S w w') (hb : ¬ S b) (hv : ∀ g, v.ownBlock = some g → ¬ S g) : RdAt w' b rest p v tv l :=
  ⟨h.blk.chg hc hb, h.ptr, ownsRow_same h.row (fun g hg => hc.block g (ownsRow_lt h.row g hg) (hv g hg)), h.apart⟩
theorem RdAt.below {w w' : World} {b : Nat} {rest : ByteArray} {p v tv : Value} {l : List UInt8} (h : RdAt w b rest p v tv l) (hb : Below w.heap.size w w') : RdAt w' b rest p v tv l :=
  h.chg (S := fun _ => False) (Chg.of_below hb) (fun e => e) (fun _ _ e => e)
/-- A store into the first cell, into the last. -/
theorem RdAt.setRest {w : World} {b : Nat} {rest : ByteArray} {p v tv : Value} {l : List UInt8} (h : RdAt w b rest p v tv l) (s : ByteArray) : RdAt (w.setCell ⟨b, 0, none⟩ (.string s)) b s p v tv l :=
  ⟨by have := h.blk.set 0 (.string s); simpa using this, h.ptr, ownsRow_same h.row (fun g hg => by rw [Below.heap_setCell _ _ _ _ (fun e => h.apart (by rw [hg]; simp [e]))]), h.apart⟩
theorem RdAt.setToks {w : World} {b : Nat} {rest : ByteArray} {p v tv : Value} {l : List UInt8} (h : RdAt w b rest p v tv l) (u : Value) : RdAt (w.setCell ⟨b, 3, none⟩ u) b rest p v u l :=
  ⟨by have := h.blk.set 3 u; simpa using this, h.ptr, ownsRow_same h.row (fun g hg => by rw [Below.heap_setCell _ _ _ _ (fun e => h.apart (by rw [hg]; simp [e]))]), h.apart⟩

theorem liesReader : liesAt Tryz.prog Tryz.prog.depth 74 (4 / Tryz.prog.cellsOf 74) 1 72 1 = true := by kernel_rfl
set_option maxHeartbeats 1000000 in
theorem rdCheck_used (b : Nat) (w : World) (h0 : w.cell? ⟨b, 1, none⟩ = some (.pointer (some ⟨b, 1, none⟩))) :
    Calls Tryz.prog 65 #[.pointer (some ⟨b, 1, none⟩)] w fun e w' => e = .returned (.tuple #[]) ∧ w' = w := by
  obtain ⟨j, hj, hjs⟩ := Option.map_eq_some_iff.1 sizeBuilder
  go_enter Tryz.func65, Tryz.ntmps65
  go_wp2
  rw [Lib.run_neq_ptr_same w _ Tryz.underlying69 hj]
  go_wp2
  go_end0
  exact ⟨rfl, rfl⟩
set_option maxHeartbeats 1000000 in
theorem rdCheck_fresh (b : Nat) (w : World) (h0 : w.cell? ⟨b, 1, none⟩ = some (.pointer none)) (hsh : w.shape? b = some (74, 4)) (hfz : w.frozen? ⟨b, 1, none⟩ = false) :
    Calls Tryz.prog 65 #[.pointer (some ⟨b, 1, none⟩)] w fun e w' => e = .returned (.tuple #[]) ∧ w' = w.setCell ⟨b, 1, none⟩ (.pointer (some ⟨b, 1, none⟩)) := by
  obtain ⟨j, hj, hjs⟩ := Option.map_eq_some_iff.1 sizeBuilder
  go_enter Tryz.func65, Tryz.ntmps65
  go_wp2
  rw [Lib.run_to_unsafe w ⟨b, 1, none⟩ Tryz.underlying69 Tryz.underlying135 hj (by rw [hjs]; decide) hsh (Nat.lt_of_sub_eq_succ rfl)]
  simp only [Result.andThen]
  rw [Oper.upon_value]
  go_wp2
  rw [run_callFunc_extern Tryz.func93 (by kernel_rfl) (by kernel_rfl) (by kernel_rfl) (e := Extern.AbiNoEscape.same) (by kernel_rfl)]
  rw [Lib.run_noEscape]
  simp only [Result.andThen]
  rw [Oper.upon_value]
  go_wp2
  rw [Lib.run_from_unsafe w ⟨b, 1, none⟩ Tryz.underlying135 Tryz.underlying69 hj hsh liesReader]
  simp only [Result.andThen]
  rw [Oper.upon_value]
  go_wp2
  go_end0
  exact ⟨rfl, rfl⟩
theorem rdCheck_any {w : World} {b : Nat} {rest : ByteArray} {p v tv : Value} {l : List UInt8} (h : RdAt w b rest p v tv l) :
    Calls Tryz.prog 65 #[.pointer (some ⟨b, 1, none⟩)] w fun e w' => e = .returned (.tuple #[]) ∧ RdAt w' b rest (.pointer (some ⟨b, 1, none⟩)) v tv l ∧ Chg (fun x => x = b) w w' := by
  obtain ⟨c0, c1, c2, c3, fz⟩ := h.cells
  rcases h.ptr with rfl | rfl
  · have hsh : w.shape? b = some (74, 4) := by have := h.blk; unfold own at this; simp [World.shape?, this]
    refine (rdCheck_fresh b w c1 hsh (fz 1)).mono ?_
    rintro e w' ⟨rfl, rfl⟩
    refine ⟨rfl, ⟨?_, .inr rfl, ?_, h.apart⟩, Chg.setCell w ⟨b, 1, none⟩ _⟩
    · have := h.blk.set 1 (.pointer (some ⟨b, 1, none⟩)); simpa using this
    · exact ownsRow_same h.row (fun g hg => by rw [Below.heap_setCell _ _ _ _ (fun e => h.apart (by rw [hg]; simp [e]))])
  · refine (rdCheck_used b w c1).mono ?_
    rintro e w' ⟨rfl, rfl⟩
    exact ⟨rfl, h, Chg.refl _ _⟩
/-- Behind a call that writes: the row is where it was, or new. -/
def RdPost (w : World) (b : Nat) (rest : ByteArray) (v tv : Value) (l : List UInt8) (w' : World) : Prop :=
  ∃ p v', RdAt w' b rest p v' tv l ∧ Chg (fun x => x = b ∨ v.ownBlock = some x) w w' ∧ ∀ g, v'.ownBlock = some g → v.ownBlock = some g ∨ w.heap.size ≤ g
theorem typ_ne : (74 : Nat) ≠ 5 := by decide
set_option maxHeartbeats 2000000 in
theorem rdWrite_any {w : World} {b : Nat} {rest : ByteArray} {p v tv : Value} {l : List UInt8} (h : RdAt w b rest p v tv l) (s : ByteArray) (hlen : l.length + s.size ≤ 140000000000000) :
    Calls Tryz.prog 39 #[.pointer (some ⟨b, 1, none⟩), .string s] w fun e w' => e = .returned (.tuple #[.int .i64 s.size, .nilIface]) ∧ RdPost w b rest v tv (l ++ s.data.toList) w' := by
  obtain ⟨i0, hi, hz0, hz1, hz2⟩ := infoByte_parts
  have HC := hid (rdCheck_any h)
  clear h
  go_enter Tryz.func39, Tryz.ntmps39
  go_wp2_with (go_at_call 65; (with_reducible refine HC.out.mono ?_))
  rintro e w1 ⟨rfl, h1, hb1⟩
  obtain ⟨c0, c1, c2, c3, fz⟩ := h1.cells
  obtain ⟨v', w2, hr, hown', hgrow, _⟩ := Lib.run_append_own_string (P := Tryz.prog) w1 0 70 9 70 5 i0 Tryz.underlying70 Tryz.underlying9 hi hz0 hz1 hz2 v l.length _ h1.row s (by unfold maxLen; omega) (by omega) (Nat.zero_le _)
  have hblk := append_str_block h1.row (by unfold maxLen; omega) (by omega) hr
  have hg2 : Chg (fun x => v.ownBlock = some x) w1 w2 := Chg.of_grown hgrow
  have hb2 : own w2 b #[.string rest, .pointer (some ⟨b, 1, none⟩), v, tv] 74 := h1.blk.chg hg2 h1.apart
  have hlt := h1.lt
  have hap := h1.apart
  obtain ⟨ao, n', cap, rfl⟩ : ∃ ao n' cap, v' = .slice ao n' cap := by
    rcases hown'.2 with ⟨hv, _⟩ | ⟨g, cap, cur, hv, _⟩
    · exact ⟨_, _, _, hv⟩
    · exact ⟨_, _, _, hv⟩
  have d1 : w2.cell? ⟨b, 2, none⟩ = some v := by rw [hb2.cell]; rfl
  have f1 : w2.frozen? ⟨b, 2, none⟩ = false := hb2.frozen 2
  have hne : (Value.slice ao n' cap).ownBlock ≠ some b := by
    intro e
    rcases hown'.2 with ⟨hv, _⟩ | ⟨g, cap', cur, hv, _, hg, _⟩
    · rw [hv] at e; simp [Value.ownBlock] at e
    · rw [hv] at e
      simp [Value.ownBlock] at e
      subst e
      unfold own at hb2
      rw [hb2] at hg
      simp only [Option.some.injEq, Obj.cells.injEq] at hg
      exact typ_ne hg.2.1
  have HP : Hid (RdPost w b rest v tv (l ++ s.data.toList) (w2.setCell ⟨b, 2, none⟩ (.slice ao n' cap))) := hid (by
    refine ⟨_, _, ⟨?_, .inr rfl, ?_, hne⟩, ?_, ?_⟩
    · have := hb2.set 2 (.slice ao n' cap); simpa using this
    · rw [List.length_append, ← byteCells_append, ← Lib.strCells_eq]
      have : w2.ownsRow 0 5 1 (.slice ao n' cap) (l.length + s.data.toList.length) (Lib.byteCells l ++ Lib.strCells s) := by rw [str_len]; exact hown'
      exact ownsRow_same this (fun g hg => by rw [Below.heap_setCell _ _ _ _ (fun e => hne (by rw [hg]; simp [e]))])
    · refine (Chg.trans (hb1.mono (fun x e => .inl e)) (hg2.mono (T := fun x => x = b ∨ v.ownBlock = some x) (fun x e => .inr e)) (fun x e => .inl e)).trans ((Chg.setCell w2 ⟨b, 2, none⟩ _).mono (T := fun x => x = b ∨ v.ownBlock = some x) (fun x e => .inl e)) (fun x e => .inl e)
    · intro g hg
      have hs := hb1.size
      rcases hblk with k | k
      · left; rw [← k]; exact hg
      · right; rw [k] at hg; cases hg; exact hs)
  clear hown' hgrow hblk hg2 hb2 hb1 h1 hap hne
  go_wp2_with (at_builtin; refine wpList_append_at hr rfl rfl _ _ rfl rfl rfl rfl ?_)
  go_wp2
  go_ret2
  exact ⟨rfl, HP.out⟩
theorem rdLen_any {w : World} {b : Nat} {rest : ByteArray} {p v tv : Value} {l : List UInt8} (h : RdAt w b rest p v tv l) :
    Calls Tryz.prog 53 #[.pointer (some ⟨b, 1, none⟩)] w fun e w' => e = .returned (.int .i64 (l.length : Nat)) ∧ w = w' := by
  obtain ⟨c0, c1, c2, c3, fz⟩ := h.cells
  obtain ⟨ao, cap, rfl⟩ : ∃ ao cap, v = .slice ao l.length cap := by
    rcases h.row.2 with ⟨hv, h0⟩ | ⟨g, cap, cur, hv, _⟩
    · exact ⟨_, 0, by rw [hv, h0]⟩
    · exact ⟨_, _, hv⟩
  clear h
  go_enter Tryz.func53, Tryz.ntmps53
  go_wp2
  go_ret
  exact ⟨rfl, rfl⟩
set_option maxHeartbeats 1000000 in
theorem rdReset_any {w : World} {b : Nat} {rest : ByteArray} {p v tv : Value} (h : own w b #[.string rest, p, v, tv] 74) :
    Calls Tryz.prog 54 #[.pointer (some ⟨b, 1, none⟩)] w fun e w' => e = .returned (.tuple #[]) ∧ RdAt w' b rest (.pointer none) (.slice none 0 0) tv [] ∧ Chg (fun x => x = b) w w' := by
  have c1 : w.cell? ⟨b, 1, none⟩ = some p := by rw [h.cell]; rfl
  have f1 := h.frozen 1
  have h1 := h.set 1 (.pointer none)
  have h2 := h1.set 2 (.slice none 0 0)
  have c2 : (w.setCell ⟨b, 1, none⟩ (.pointer none)).cell? ⟨b, 2, none⟩ = some v := by rw [h1.cell]; rfl
  have f2 := h1.frozen 2
  have HP : Hid (RdAt ((w.setCell ⟨b, 1, none⟩ (.pointer none)).setCell ⟨b, 2, none⟩ (.slice none 0 0)) b rest (.pointer none) (.slice none 0 0) tv []) := hid ⟨by simpa using h2, .inl rfl, World.ownsRow_nil _ _ _ _, by simp [Value.ownBlock]⟩
  clear h h1 h2
  go_enter Tryz.func54, Tryz.ntmps54
  go_wp2
  go_end0
  exact ⟨rfl, HP.out, (Chg.setCell w ⟨b, 1, none⟩ _).trans (Chg.setCell _ ⟨b, 2, none⟩ _) (fun x e => .inl e)⟩
theorem chg_freeze (w : World) (p : Addr) (n : Nat) : Chg (fun x => some p.block = some x) w (w.freeze p n) := by
  unfold World.freeze
  split
  · exact Chg.refl _ _
  · exact ⟨rfl, rfl, rfl, by simp, fun b hb hn => by
      simp only [Array.getElem?_modify]
      rw [if_neg (fun e => hn (by rw [e]))]⟩
set_option maxHeartbeats 2000000 in
theorem rdString_any {w : World} {b : Nat} {rest : ByteArray} {p v tv : Value} {l : List UInt8} (h : RdAt w b rest p v tv l) (h0 : l ≠ []) :
    Calls Tryz.prog 40 #[.pointer (some ⟨b, 1, none⟩)] w fun e w' => e = .returned (.string (mk l)) ∧ Chg (fun x => v.ownBlock = some x) w w' := by
  have hown := h.row
  have hl0 : l.length ≠ 0 := by simpa using h0
  obtain ⟨g, cap, cur, rfl, hbg, hg, hnc, hcm, hcs, htake⟩ : ∃ g cap cur, v = .slice (some ⟨g, 0, none⟩) l.length cap ∧ 0 ≤ g ∧ w.heap[g]? = some (.cells cur 5 (0, 0)) ∧ l.length ≤ cap ∧ cap ≤ maxLen ∧ cur.size = cap * 1 ∧ cur.toList.take (l.length * 1) = Lib.byteCells l := by
    rcases hown.2 with ⟨_, hz⟩ | ⟨g, cap, cur, hv, r⟩
    · exact absurd hz hl0
    · exact ⟨g, cap, cur, hv, r⟩
  have c1 : w.drew.cell? ⟨b, 2, none⟩ = some (.slice (some ⟨g, 0, none⟩) l.length cap) := h.cells.2.2.1
  have hSD : (Builtin.unsafeSliceData_ #[70] 117 #[.slice (some ⟨g, 0, none⟩) l.length cap]).run Tryz.prog w.drew = .ok (.pointer (some ⟨g, 0, none⟩)) w.drew :=
    Lib.run_unsafeSliceData_row _ _ _ _ _ _ (by omega)
  have hUS : (Builtin.unsafeString_ #[117, 3] 9 #[.pointer (some ⟨g, 0, none⟩), .int .i64 l.length]).run Tryz.prog w.drew = .ok (.string (mk l)) (w.drew.freeze ⟨g, 0, none⟩ l.length) := by
    refine Lib.run_unsafeString_row w.drew 117 3 9 5 Tryz.underlying117 cellsByte g cur.size (by have hg' : w.drew.heap[g]? = some (.cells cur 5 (0, 0)) := hg; simp [World.shape?, hg']) l h0 (by omega) (by unfold maxLen at hcm; omega) ?_
    intro j x hx
    have := hown.cells (g := g) rfl j (.int .u8 x.toNat) (by simp [Lib.byteCells, hx])
    exact this
  have HF : Hid (Chg (fun x => (Value.slice (some ⟨g, 0, none⟩) l.length cap).ownBlock = some x) w (w.drew.freeze ⟨g, 0, none⟩ l.length)) := hid (by
    have := chg_freeze w.drew ⟨g, 0, none⟩ l.length
    exact ⟨this.os, this.tape, this.output, this.size, this.block⟩)
  clear h hown htake
  go_enter Tryz.func40, Tryz.ntmps40
  go_wp2
  go_region
  all_goals (go_wp2; go_ret; exact ⟨rfl, HF.out⟩)
end Go.Proofs.YtjoeamlidmmioaaGreatDoor

