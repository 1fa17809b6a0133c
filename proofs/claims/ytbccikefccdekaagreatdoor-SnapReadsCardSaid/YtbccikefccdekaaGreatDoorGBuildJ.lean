import Derived.Test.YtbccikefccdekaaGreatDoorMq0J
import Derived.Test.YtbccikefccdekaaGreatDoorMq1J
/-
  GENERAL: strings.Builder told with its buffer: what WriteString changes is the builder's own block and its buffer alone.
-/
namespace Go.Proofs.YtbccikefccdekaaGreatDoor
open Go.RowKit
set_option linter.unusedVariables false
set_option maxRecDepth 100000

/-- A builder in block b (of type T), its buffer v, its bytes l: all from block B on. -/
structure Bu (T : TypeId) (B b : Nat) (v : Value) (l : List UInt8) (w : World) : Prop where
  from_ : B ≤ b
  box : ∃ p, (p = .pointer none ∨ p = .pointer (some ⟨b, 0, none⟩)) ∧ own w b #[p, v] T
  row : w.ownsRow B 5 1 v l.length (Lib.byteCells l)
  ne : v.ownBlock ≠ some b
theorem Bu.is {T : TypeId} {B b : Nat} {v : Value} {l : List UInt8} {w : World} (h : Bu T B b v l w) : Lib.IsBuilder T 5 B b (Lib.byteCells l) w := by
  obtain ⟨p, hp, ho⟩ := h.box
  have hr := h.row
  rcases hp with rfl | rfl
  · exact .inl ⟨h.from_, v, ho, by rw [Lib.byteCells_length]; exact hr, h.ne⟩
  · exact .inr ⟨h.from_, v, ho, by rw [Lib.byteCells_length]; exact hr, h.ne⟩
theorem Bu.lt {T : TypeId} {B b : Nat} {v : Value} {l : List UInt8} {w : World} (h : Bu T B b v l w) : b < w.heap.size := by
  obtain ⟨p, hp, ho⟩ := h.box
  exact ho.lt
theorem Bu.row_lt {T : TypeId} {B b : Nat} {v : Value} {l : List UInt8} {w : World} (h : Bu T B b v l w) : ∀ x, v.ownBlock = some x → B ≤ x ∧ x < w.heap.size := fun x hx => World.ownsRow.lt h.row x hx
theorem Bu.same {T : TypeId} {B b : Nat} {v : Value} {l : List UInt8} {w w' : World} (h : Bu T B b v l w) (h1 : w'.heap[b]? = w.heap[b]?) (h2 : ∀ x, v.ownBlock = some x → w'.heap[x]? = w.heap[x]?) : Bu T B b v l w' := by
  obtain ⟨p, hp, ho⟩ := h.box
  exact ⟨h.from_, ⟨p, hp, ho.same h1⟩, ownsRow_same h.row h2, h.ne⟩
theorem Bu.below {T : TypeId} {B b : Nat} {v : Value} {l : List UInt8} {w w' : World} (h : Bu T B b v l w) (hb : Below w.heap.size w w') : Bu T B b v l w' :=
  h.same (hb.block _ h.lt) (fun x hx => hb.block x (h.row_lt x hx).2)
theorem Bu.chg {T : TypeId} {B b : Nat} {v : Value} {l : List UInt8} {w w' : World} {S : Nat → Prop} (h : Bu T B b v l w) (hc : Chg S w w') (h1 : ¬ S b) (h2 : ∀ x, v.ownBlock = some x → ¬ S x) : Bu T B b v l w' :=
  h.same (hc.block _ h.lt h1) (fun x hx => hc.block x (h.row_lt x hx).2 (h2 x hx))
theorem Bu.fresh (T : TypeId) (w : World) : Bu T w.heap.size w.heap.size (.slice none 0 0) [] (w.alloc (.cells #[.pointer none, .slice none 0 0] T)) :=
  ⟨Nat.le_refl _, ⟨_, .inl rfl, own.new w _ _⟩, ⟨by simp [Lib.byteCells], .inl ⟨rfl, rfl⟩⟩, by simp [Value.ownBlock]⟩

theorem copyCheck_bu {T : TypeId} (hT : BlkOk T) {B b : Nat} {v : Value} {l : List UInt8} {w : World} (h : Bu T B b v l w) :
    Calls Tryz.prog 49 #[.pointer (some ⟨b, 0, none⟩)] w fun e w' => e = .returned (.tuple #[]) ∧ own w' b #[.pointer (some ⟨b, 0, none⟩), v] T ∧ Chg (fun x => x = b) w w' := by
  obtain ⟨p, hp, ho⟩ := h.box
  rcases hp with rfl | rfl
  · refine (copyCheck_fresh hT b w ((ho.cell 0).trans rfl) (by simp [World.shape?, show w.heap[b]? = _ from ho]) (ho.frozen 0)).mono ?_
    rintro e w' ⟨rfl, rfl⟩
    exact ⟨rfl, ho.set 0 _, (Chg.setCell w ⟨b, 0, none⟩ _).mono (fun x hx => hx)⟩
  · refine (copyCheck_used b w ((ho.cell 0).trans rfl)).mono ?_
    rintro e w' ⟨rfl, rfl⟩
    exact ⟨rfl, ho, Chg.refl _ _⟩
set_option maxHeartbeats 4000000 in
/-- WriteString: only the builder's block and its buffer turn; the new buffer is the old one's block, or a new one. -/
theorem writeString_bu {T : TypeId} (hT : BlkOk T) {B b : Nat} {v : Value} {l : List UInt8} {w : World} (h : Bu T B b v l w) (s : ByteArray) (hlen : l.length + s.size ≤ 140737488355328) (hBw : B ≤ w.heap.size) :
    Calls Tryz.prog 25 #[.pointer (some ⟨b, 0, none⟩), .string s] w fun e w' => e = .returned (.tuple #[.int .i64 s.size, .nilIface]) ∧ ∃ v', Bu T B b v' (l ++ s.data.toList) w' ∧ Chg (fun x => x = b ∨ v.ownBlock = some x) w w' := by
  obtain ⟨i0, hi, hz0, hz1, hz2⟩ := infoByte_parts
  have HCC := hid (copyCheck_bu hT h)
  have HB := hid h
  go_enter Tryz.func25, Tryz.ntmps25
  go_wp2_with (go_at_call 49; (with_reducible refine HCC.out.mono ?_))
  rintro e w1 ⟨rfl, ho1, hch1⟩
  have hown : w1.ownsRow B 5 1 v l.length (Lib.byteCells l) := ownsRow_same HB.out.row (fun x hx => hch1.block x (HB.out.row_lt x hx).2 (fun e => HB.out.ne (by rw [hx, e])))
  have hne := HB.out.ne
  have c0 := (ho1.cell 0).trans (rfl : #[Value.pointer (some ⟨b, 0, none⟩), v][0]? = some (Value.pointer (some ⟨b, 0, none⟩)))
  have c1 := (ho1.cell 1).trans (rfl : #[Value.pointer (some ⟨b, 0, none⟩), v][1]? = some v)
  go_wp2_with (at_builtin; refine Lib.wpList_append_own_string _ rfl _ _ 33 9 rfl B 5 i0 Tryz.underlying33 Tryz.underlying9 hi hz0 hz1 hz2 _ _ _ rfl hown s rfl ?c3 ?c4 ?c5 ?_)
  case c3 => unfold maxLen; omega
  case c4 => omega
  case c5 => have := hch1.size; omega
  intro v' w2 hown' hgrow hrow
  have hb2 : own w2 b #[.pointer (some ⟨b, 0, none⟩), v] T := ho1.same (hgrow.block b ho1.lt (fun e => hne e.symm))
  have d0 := (hb2.cell 0).trans (rfl : #[Value.pointer (some ⟨b, 0, none⟩), v][0]? = some (Value.pointer (some ⟨b, 0, none⟩)))
  have d1 := (hb2.cell 1).trans (rfl : #[Value.pointer (some ⟨b, 0, none⟩), v][1]? = some v)
  have f1 : w2.frozen? ⟨b, 1, none⟩ = false := hb2.frozen 1
  obtain ⟨ao, n', cap, rfl⟩ : ∃ ao n' cap, v' = .slice ao n' cap := by
    rcases hown'.2 with ⟨hv, _⟩ | ⟨g, cap, cur, hv, _⟩
    · exact ⟨_, _, _, hv⟩
    · exact ⟨_, _, _, hv⟩
  go_wp2
  go_ret2
  have hcells : Lib.byteCells (l ++ s.data.toList) = Lib.byteCells l ++ Lib.strCells s := by rw [← byteCells_append]; rfl
  have hlenE : (l ++ s.data.toList).length = l.length + s.size := by rw [List.length_append, str_len]
  have hput := Lib.BuilderAt.put (T := T) (e := 5) HB.out.from_ hb2 (bs' := Lib.byteCells l ++ Lib.strCells s) (by rw [List.length_append, Lib.strCells_length, Lib.byteCells_length]; exact hown') hT.2
  obtain ⟨hBb, v2, hbk2, hown2, hne2⟩ := hput
  have ev : v2 = .slice ao n' cap := by
    have h1 := hb2.set 1 (.slice ao n' cap)
    have h2 : own (w2.setCell ⟨b, 1, none⟩ (.slice ao n' cap)) b #[.pointer (some ⟨b, 0, none⟩), v2] T := hbk2
    have h3 := h1.symm.trans h2
    simp at h3
    exact h3.symm
  subst ev
  refine ⟨rfl, .slice ao n' cap, ⟨hBb, ⟨_, .inr rfl, hbk2⟩, ?_, hne2⟩, ?_⟩
  · rw [hcells, hlenE]
    rw [List.length_append, Lib.strCells_length, Lib.byteCells_length] at hown2
    exact hown2
  · have k1 : Chg (fun x => x = b ∨ v.ownBlock = some x) w w1 := hch1.mono (fun x hx => .inl hx)
    have k2 : Chg (fun x => x = b ∨ v.ownBlock = some x) w1 w2 := (Chg.of_grown hgrow).mono (fun x hx => .inr hx)
    have k3 : Chg (fun x => x = b ∨ v.ownBlock = some x) w2 (w2.setCell ⟨b, 1, none⟩ (.slice ao n' cap)) := (Chg.setCell w2 ⟨b, 1, none⟩ _).mono (fun x hx => .inl hx)
    exact (k1.trans k2 (fun x hx => .inl hx)).trans k3 (fun x hx => .inl hx)
end Go.Proofs.YtbccikefccdekaaGreatDoor

