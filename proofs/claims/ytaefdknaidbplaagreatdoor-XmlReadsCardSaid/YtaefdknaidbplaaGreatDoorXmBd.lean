/-
  LAYER 11 (xml), THE PROGRAM: A strings.Builder OF THE CALL's OWN, with the blocks it turns (WriteByte, WriteString, String): what lies beside it stays.
-/
import Derived.Test.YtaefdknaidbplaaGreatDoorXmJb
namespace Go.Proofs.YtaefdknaidbplaaGreatDoor
open Go.RowKit
set_option linter.unusedVariables false
set_option maxRecDepth 100000

def byTy : RowTy UInt8 := ⟨45, 5, 1, 1, fun c => [.int .u8 c.toNat], .int .u8 0⟩
theorem byTy_ok : byTy.Ok := ⟨fun _ => rfl, fun c u h => by simp [byTy] at h; subst h; rfl, by decide, Tryz.underlying45, by kernel_rfl, by kernel_rfl, rfl, by decide⟩
theorem byFlat (l : List UInt8) : byTy.flat l = Lib.byteCells l := by
  induction l with
  | nil => rfl
  | cons c r ih => rw [show byTy.flat (c :: r) = byTy.cs c ++ byTy.flat r from rfl, ih]; simp [byTy, Lib.byteCells]
structure BdAt (w : World) (b : Nat) (p v : Value) (l : List UInt8) : Prop where
  blk : own w b #[p, v] 47
  ptr : p = .pointer none ∨ p = .pointer (some ⟨b, 0, none⟩)
  row : w.ownsRow 0 5 1 v l.length (Lib.byteCells l)
  apart : v.ownBlock ≠ some b
structure BIs (w : World) (F : Nat → Prop) (b : Nat) (l : List UInt8) : Prop where
  is : ∃ p v, BdAt w b p v l ∧ F b ∧ ∀ g, v.ownBlock = some g → F g
  lt : ∀ x, F x → x < w.heap.size
theorem bIs_same {w w' : World} {F : Nat → Prop} {b : Nat} {l : List UInt8} (h : BIs w F b l) (hz : w.heap.size ≤ w'.heap.size) (hs : ∀ x, F x → w'.heap[x]? = w.heap[x]?) : BIs w' F b l := by
  obtain ⟨⟨p, v, h1, fb, fv⟩, hl⟩ := h
  exact ⟨⟨p, v, ⟨h1.blk.same (hs b fb), h1.ptr, ownsRow_same h1.row (fun g hg => hs g (fv g hg)), h1.apart⟩, fb, fv⟩, fun x hx => Nat.lt_of_lt_of_le (hl x hx) hz⟩
def bdRep : Rep (List UInt8) := ⟨BIs, fun h hz hs => bIs_same h hz hs, fun h => h.lt⟩
/-- A builder at hand: made since w0. -/
abbrev BHas (w0 w : World) (F : Nat → Prop) (b : Nat) (l : List UInt8) : Prop := bdRep.Has w0 w F b l
/-- .. turned by a call. -/
abbrev BTo (F : Nat → Prop) (w w' : World) (b : Nat) (l : List UInt8) : Prop := bdRep.Turn F w w' b l
theorem bTo_trans {F : Nat → Prop} {w w1 w2 : World} {b : Nat} {l1 l2 : List UInt8} (h : BTo F w w1 b l1) (k : ∀ F1, BIs w1 F1 b l1 → BTo F1 w1 w2 b l2) : BTo F w w2 b l2 := by
  obtain ⟨F1, h1, h2, h3⟩ := h
  obtain ⟨F2, k1, k2, k3⟩ := k F1 h1
  refine ⟨F2, k1, h2.trans k2 h3, fun x hx => ?_⟩
  rcases k3 x hx with e | e
  · exact h3 x e
  · have := h2.size; right; omega
theorem bTo_step {F F1 : Nat → Prop} {w w1 w2 : World} {b : Nat} {l : List UInt8} (c : Chg F w w1) (s : ∀ x, F1 x → F x ∨ w.heap.size ≤ x) (k : BTo F1 w1 w2 b l) : BTo F w w2 b l := by
  obtain ⟨F2, k1, k2, k3⟩ := k
  refine ⟨F2, k1, c.trans k2 s, fun x hx => ?_⟩
  rcases k3 x hx with e | e
  · exact s x e
  · have := c.size; right; omega
/-- What was laid behind stands in front of a turn. -/
theorem bTo_behind {F : Nat → Prop} {w w1 w2 : World} {b : Nat} {l l1 : List UInt8} (hb : Below w.heap.size w w1) (hl : BIs w F b l) (h : BTo F w1 w2 b l1) : BTo F w w2 b l1 := by
  obtain ⟨F1, h1, h2, h3⟩ := h
  exact ⟨F1, h1, (Chg.of_below (S := F) hb).trans h2 (fun x e => .inl e), fun x hx => (h3 x hx).imp id (fun e => Nat.le_trans hb.size e)⟩
/-- A block beside it stays. -/
theorem bTo_box {F : Nat → Prop} {w w2 : World} {b q : Nat} {l : List UInt8} {cs : Array Value} {T : TypeId} (h : BTo F w w2 b l) (hq : own w q cs T) (hn : ¬ F q) : own w2 q cs T := by
  obtain ⟨F1, h1, h2, h3⟩ := h
  exact hq.chg h2 hn
theorem bdCheck_any {w : World} {b : Nat} {p v : Value} {l : List UInt8} (h : BdAt w b p v l) :
    Calls Tryz.prog 51 #[.pointer (some ⟨b, 0, none⟩)] w fun e w' => e = .returned (.tuple #[]) ∧ BdAt w' b (.pointer (some ⟨b, 0, none⟩)) v l ∧ Chg (fun x => x = b) w w' := by
  have c0 : w.cell? ⟨b, 0, none⟩ = some p := by rw [h.blk.cell]; rfl
  rcases h.ptr with rfl | rfl
  · have hsh : w.shape? b = some (47, 2) := by have := h.blk; unfold own at this; simp [World.shape?, this]
    refine (copyCheck_fresh blkOk_bld b w c0 hsh (h.blk.frozen 0)).mono ?_
    rintro e w' ⟨rfl, rfl⟩
    refine ⟨rfl, ⟨?_, .inr rfl, ?_, h.apart⟩, Chg.setCell w ⟨b, 0, none⟩ _⟩
    · have := h.blk.set 0 (.pointer (some ⟨b, 0, none⟩)); simpa using this
    · exact ownsRow_same h.row (fun g hg => by rw [Below.heap_setCell _ _ _ _ (fun e => h.apart (by rw [hg]; simp [e]))])
  · refine (copyCheck_used b w c0).mono ?_
    rintro e w' ⟨rfl, rfl⟩
    exact ⟨rfl, h, Chg.refl _ _⟩
/-- The row has grown, its place is stored. -/
theorem bd_put {w w1 w2 : World} {F : Nat → Prop} {b : Nat} {v : Value} {l m : List UInt8} {ao : Option Addr} {n cap : Nat} (hlt : ∀ x, F x → x < w.heap.size) (fb : F b) (fv : ∀ g, v.ownBlock = some g → F g) (h1 : BdAt w1 b (.pointer (some ⟨b, 0, none⟩)) v l) (hc1 : Chg (fun x => x = b) w w1) (hgrow : w1.grownBy w2 v.ownBlock) (hrow : w2.ownsRow 0 5 1 (.slice ao n cap) m.length (Lib.byteCells m)) (hblk : (Value.slice ao n cap).ownBlock = v.ownBlock ∨ ∃ g, (Value.slice ao n cap).ownBlock = some g ∧ w1.heap.size ≤ g) :
    own w2 b #[.pointer (some ⟨b, 0, none⟩), v] 47 ∧ BTo F w (w2.setCell ⟨b, 1, none⟩ (.slice ao n cap)) b m := by
  have hg2 : Chg (fun x => v.ownBlock = some x) w1 w2 := Chg.of_grown hgrow
  have hb2 : own w2 b #[.pointer (some ⟨b, 0, none⟩), v] 47 := h1.blk.chg hg2 h1.apart
  have hne : (Value.slice ao n cap).ownBlock ≠ some b := by
    rcases hblk with e | ⟨g, e, hg⟩
    · rw [e]; exact h1.apart
    · rw [e]; intro e2; cases e2; have := h1.blk.lt; omega
  refine ⟨hb2, fun x => F x ∨ (Value.slice ao n cap).ownBlock = some x, ⟨⟨_, _, ⟨by have := hb2.set 1 (.slice ao n cap); simpa using this, .inr rfl, ownsRow_same hrow (fun g hg => by rw [Below.heap_setCell _ _ _ _ (fun e => hne (by rw [hg]; simp [e]))]), hne⟩, .inl fb, fun g hg => .inr hg⟩, ?_⟩, ?_, ?_⟩
  · intro x hx
    rw [setCell_size]
    have hz := hc1.size
    have hz2 := hg2.size
    rcases hx with e | e
    · have := hlt x e; omega
    · exact ownsRow_lt hrow x e
  · exact ((hc1.mono (T := F) (fun x e => by cases e; exact fb)).trans (hg2.mono (T := F) (fun x e => fv x e)) (fun x e => .inl e)).trans ((Chg.setCell w2 ⟨b, 1, none⟩ _).mono (T := F) (fun x e => by cases e; exact fb)) (fun x e => .inl e)
  · intro x hx
    rcases hx with e | e
    · exact .inl e
    · rcases hblk with k | ⟨g, k, hg⟩
      · exact .inl (fv x (by rw [← k]; exact e))
      · rw [k] at e; cases e; have := hc1.size; right; omega
set_option maxHeartbeats 2000000 in
theorem bdStr_any {w : World} {F : Nat → Prop} {b : Nat} {l : List UInt8} (h : BIs w F b l) (s : ByteArray) (hlen : l.length + s.size ≤ 140000000000000) :
    Calls Tryz.prog 29 #[.pointer (some ⟨b, 0, none⟩), .string s] w fun e w' => e = .returned (.tuple #[.int .i64 s.size, .nilIface]) ∧ BTo F w w' b (l ++ s.data.toList) := by
  obtain ⟨⟨p, v, h0, fb, fv⟩, hlt⟩ := h
  obtain ⟨i0, hi, hz0, hz1, hz2⟩ := infoByte_parts
  have HC := hid (bdCheck_any h0)
  clear h0
  go_enter Tryz.func29, Tryz.ntmps29
  go_wp2_with (go_at_call 51; (with_reducible refine HC.out.mono ?_))
  rintro e w1 ⟨rfl, h1, hb1⟩
  have c1 : w1.cell? ⟨b, 1, none⟩ = some v := by rw [h1.blk.cell]; rfl
  obtain ⟨v', w2, hr, hown', hgrow, _⟩ := Lib.run_append_own_string (P := Tryz.prog) w1 0 45 9 45 5 i0 Tryz.underlying45 Tryz.underlying9 hi hz0 hz1 hz2 v l.length _ h1.row s (by unfold maxLen; omega) (by omega) (Nat.zero_le _)
  have hblk := append_str_block h1.row (by unfold maxLen; omega) (by omega) hr
  obtain ⟨ao, n', cap, rfl⟩ : ∃ ao n' cap, v' = .slice ao n' cap := by
    rcases hown'.2 with ⟨hv, _⟩ | ⟨g, cap, cur, hv, _⟩
    · exact ⟨_, _, _, hv⟩
    · exact ⟨_, _, _, hv⟩
  have hrow : w2.ownsRow 0 5 1 (.slice ao n' cap) (l ++ s.data.toList).length (Lib.byteCells (l ++ s.data.toList)) := by
    rw [List.length_append, ← byteCells_append, ← Lib.strCells_eq, str_len]; exact hown'
  obtain ⟨hb2, HP⟩ := bd_put hlt fb fv h1 hb1 hgrow hrow (hblk.imp id (fun e => ⟨_, e, Nat.le_refl _⟩))
  have d1 : w2.cell? ⟨b, 1, none⟩ = some v := by rw [hb2.cell]; rfl
  have f1 : w2.frozen? ⟨b, 1, none⟩ = false := hb2.frozen 1
  have HQ := hid HP
  clear hown' hgrow hblk hb2 hb1 h1 HP hrow HC hlt fb fv
  go_wp2_with (at_builtin; refine wpList_append_at hr rfl rfl _ _ rfl rfl rfl rfl ?_)
  go_wp2
  go_ret2
  exact ⟨rfl, HQ.out⟩
set_option maxHeartbeats 2000000 in
theorem bdByte_any {w : World} {F : Nat → Prop} {b : Nat} {l : List UInt8} (h : BIs w F b l) (c : UInt8) (q : Int) (hq : q = (c.toNat : Nat)) (hlen : l.length ≤ 9000000) :
    Calls Tryz.prog 30 #[.pointer (some ⟨b, 0, none⟩), .int .u8 q] w fun e w' => e = .returned .nilIface ∧ BTo F w w' b (l ++ [c]) := by
  obtain ⟨⟨p, v, h0, fb, fv⟩, hlt⟩ := h
  have HC := hid (bdCheck_any h0)
  subst hq
  clear h0
  go_enter Tryz.func30, Tryz.ntmps30
  go_wp2_with (go_at_call 51; (with_reducible refine HC.out.mono ?_))
  rintro e w1 ⟨rfl, h1, hb1⟩
  have c1 : w1.cell? ⟨b, 1, none⟩ = some v := by rw [h1.blk.cell]; rfl
  have hbx : Below w1.heap.size w1 (w1.alloc (.cells #[.int .u8 (c.toNat : Nat)] 5)) := (Below.refl _ _).alloc (Nat.le_refl _) _
  have ho : ROwn byTy (w1.alloc (.cells #[.int .u8 (c.toNat : Nat)] 5)) v l := by
    have : ROwn byTy w1 v l := by unfold ROwn; rw [byFlat]; exact h1.row
    exact this.below hbx
  obtain ⟨ao, cap, w2, hr, hown', hgrow, hblk⟩ := run_app byTy_ok _ 45 v _ l [c] ho (rAt_box byTy_ok (own.new w1 #[.int .u8 (c.toNat : Nat)] 5) rfl) (by simp; omega)
  have hrow : w2.ownsRow 0 5 1 (.slice ao (l.length + 1) cap) (l ++ [c]).length (Lib.byteCells (l ++ [c])) := by
    rw [← byFlat]; exact hown'
  have h1' : BdAt (w1.alloc (.cells #[.int .u8 (c.toNat : Nat)] 5)) b (.pointer (some ⟨b, 0, none⟩)) v l :=
    ⟨h1.blk.chg (Chg.of_below (S := fun _ => False) hbx) (fun e => e), h1.ptr, by unfold ROwn at ho; rw [byFlat] at ho; exact ho, h1.apart⟩
  obtain ⟨hb2, HP⟩ := bd_put (w := w) hlt fb fv h1' (hb1.trans (Chg.of_below (S := fun x => x = b) hbx) (fun x e => .inl e)) hgrow hrow (hblk.imp id (fun e => ⟨_, e, Nat.le_refl _⟩))
  have d1 : w2.cell? ⟨b, 1, none⟩ = some v := by rw [hb2.cell]; rfl
  have f1 : w2.frozen? ⟨b, 1, none⟩ = false := hb2.frozen 1
  have HQ := hid HP
  clear hown' hgrow hblk hb2 hb1 h1 h1' HP hrow HC hlt fb fv ho hbx
  go_wp2_with (at_builtin; refine wpList_append_at hr rfl rfl _ _ rfl rfl rfl rfl ?_)
  go_wp2
  go_ret
  exact ⟨rfl, HQ.out⟩
theorem bIs_fresh (w : World) : BHas w (w.alloc (.cells #[.pointer none, .slice none 0 0] 47)) (fun x => x = w.heap.size) w.heap.size [] :=
  ⟨⟨⟨_, _, ⟨own.new w _ _, .inl rfl, World.ownsRow_nil _ _ _ _, by simp [Value.ownBlock]⟩, rfl, fun g hg => by simp [Value.ownBlock] at hg⟩, fun x e => by cases e; simp⟩, fun x e => by cases e; exact Nat.le_refl _, (Below.refl _ _).alloc (Nat.le_refl _) _⟩
theorem bdString_any {w0 w : World} {F : Nat → Prop} {b : Nat} {l : List UInt8} (h : BHas w0 w F b l) :
    Calls Tryz.prog 32 #[.pointer (some ⟨b, 0, none⟩)] w fun e w' => e = .returned (.string (mk l)) ∧ Below w0.heap.size w0 w' := by
  obtain ⟨⟨⟨p, v, h1, fb, fv⟩, hlt⟩, hn, hb⟩ := h
  have hi : Lib.IsBuilder 47 5 w0.heap.size b (Lib.byteCells l) w := by
    have hrow : w.ownsRow w0.heap.size 5 1 v (Lib.byteCells l).length (Lib.byteCells l) := by
      rw [Lib.byteCells_length]
      refine ⟨h1.row.1, ?_⟩
      rcases h1.row.2 with e | ⟨g, cap, cur, hv, _, r⟩
      · exact .inl e
      · exact .inr ⟨g, cap, cur, hv, hn g (fv g (by rw [hv]; rfl)), r⟩
    rcases h1.ptr with rfl | rfl
    · exact .inl ⟨hn b fb, v, h1.blk, hrow, h1.apart⟩
    · exact .inr ⟨hn b fb, v, h1.blk, hrow, h1.apart⟩
  exact (string_any w0.heap.size b l w hi hb.size).mono fun e w' ⟨h1, h2⟩ => ⟨h1, hb.trans h2⟩
end Go.Proofs.YtaefdknaidbplaaGreatDoor
