import Derived.Test.YtbccikefccdekaaGreatDoorGBuildJ
import Derived.Test.YtbccikefccdekaaGreatDoorMq2J
/-
  GENERAL: WriteString of a builder told with its buffer: the new buffer is the old one's block, or a new one.
-/
namespace Go.Proofs.YtbccikefccdekaaGreatDoor
open Go.RowKit
set_option linter.unusedVariables false
set_option maxRecDepth 100000

theorem ownsRow_base {w : World} {B B' : Nat} {e : TypeId} {size : Nat} {v : Value} {n : Nat} {xs : List Value} (h : w.ownsRow B e size v n xs) (hB : ∀ b, v.ownBlock = some b → B' ≤ b) : w.ownsRow B' e size v n xs := by
  obtain ⟨h1, h2⟩ := h
  refine ⟨h1, ?_⟩
  rcases h2 with h2 | ⟨g, cap, cur, hv, hg, h3⟩
  · exact .inl h2
  · exact .inr ⟨g, cap, cur, hv, hB g (by rw [hv]; rfl), h3⟩
set_option maxHeartbeats 4000000 in
theorem writeString_bu2 {T : TypeId} (hT : BlkOk T) {B b : Nat} {v : Value} {l : List UInt8} {w : World} (h : Bu T B b v l w) (s : ByteArray) (hlen : l.length + s.size ≤ 140737488355328) (hBw : B ≤ w.heap.size) :
    Calls Tryz.prog 25 #[.pointer (some ⟨b, 0, none⟩), .string s] w fun e w' => e = .returned (.tuple #[.int .i64 s.size, .nilIface]) ∧ ∃ v', Bu T B b v' (l ++ s.data.toList) w' ∧ Chg (fun x => x = b ∨ v.ownBlock = some x) w w' ∧ ∀ x, v'.ownBlock = some x → v.ownBlock = some x ∨ w.heap.size ≤ x := by
  have HCC := hid (copyCheck_bu hT h)
  have HB := hid h
  have H1 : Hid (∀ w1, own w1 b #[.pointer (some ⟨b, 0, none⟩), v] T → Chg (fun x => x = b) w w1 → ∀ ty, ∃ a n c w2, (Builtin.append_ #[33, 9] ty #[v, .string s]).run Tryz.prog w1 = .ok (.slice a n c) w2 ∧ w2.cell? ⟨b, 1, none⟩ = some v ∧ w2.frozen? ⟨b, 1, none⟩ = false ∧
      Hid (∃ v', Bu T B b v' (l ++ s.data.toList) (w2.setCell ⟨b, 1, none⟩ (.slice a n c)) ∧ Chg (fun x => x = b ∨ v.ownBlock = some x) w (w2.setCell ⟨b, 1, none⟩ (.slice a n c)) ∧ ∀ x, v'.ownBlock = some x → v.ownBlock = some x ∨ w.heap.size ≤ x)) := hid (fun w1 ho1 hch1 ty => by
    have hrow1 : w1.ownsRow B 5 1 v l.length (Lib.byteCells l) := ownsRow_same h.row (fun x hx => hch1.block x (h.row_lt x hx).2 (fun e => h.ne (by rw [hx, e])))
    have hrow0 : Bytes w1 0 v l := ownsRow_base hrow1 (fun _ _ => Nat.zero_le _)
    obtain ⟨v', w2, e2, hb2, hg, hat⟩ := run_app_str w1 ty v l hrow0 s hlen
    obtain ⟨a, n, c, rfl⟩ : ∃ a n c, v' = .slice a n c := by
      rcases hb2.2 with ⟨hv, _⟩ | ⟨g, cap, cur, hv, _⟩
      · exact ⟨_, _, _, hv⟩
      · exact ⟨_, _, _, hv⟩
    have hz := hch1.size
    have hblt := ho1.lt
    have ho2 : own w2 b #[.pointer (some ⟨b, 0, none⟩), v] T := ho1.same (hg.block b ho1.lt (fun e => h.ne e.symm))
    have hne' : (Value.slice a n c).ownBlock ≠ some b := fun e => by
      rcases hat b e with k | k
      · exact h.ne k
      · omega
    have hat' : ∀ x, (Value.slice a n c).ownBlock = some x → v.ownBlock = some x ∨ w.heap.size ≤ x := fun x e => (hat x e).imp id (fun k => by omega)
    refine ⟨a, n, c, w2, e2, (ho2.cell 1).trans rfl, ho2.frozen 1, hid ⟨.slice a n c, ⟨h.from_, ⟨_, .inr rfl, ho2.set 1 _⟩, ?_, hne'⟩, ?_, hat'⟩⟩
    · refine ownsRow_same (ownsRow_base hb2 (fun x e => ?_)) (fun x e => Below.heap_setCell _ _ _ _ (fun e2 => hne' (by rw [e, e2])))
      rcases hat' x e with k | k
      · exact (h.row_lt x k).1
      · omega
    · have k1 : Chg (fun x => x = b ∨ v.ownBlock = some x) w w1 := hch1.mono (fun x hx => .inl hx)
      have k2 : Chg (fun x => x = b ∨ v.ownBlock = some x) w1 w2 := (Chg.of_grown hg).mono (fun x hx => .inr hx)
      have k3 : Chg (fun x => x = b ∨ v.ownBlock = some x) w2 (w2.setCell ⟨b, 1, none⟩ (.slice a n c)) := (Chg.setCell w2 ⟨b, 1, none⟩ _).mono (fun x hx => .inl hx)
      exact (k1.trans k2 (fun x hx => .inl hx)).trans k3 (fun x hx => .inl hx))
  clear h
  go_enter Tryz.func25, Tryz.ntmps25
  go_wp2_with (go_at_call 49; (with_reducible refine HCC.out.mono ?_))
  rintro e w1 ⟨rfl, ho1, hch1⟩
  obtain ⟨a, n, c, w2, e2, d1, f1, hfin⟩ := H1.out w1 ho1 hch1 33
  have E2 := hid e2
  have c0 := (ho1.cell 0).trans (rfl : #[Value.pointer (some ⟨b, 0, none⟩), v][0]? = some (Value.pointer (some ⟨b, 0, none⟩)))
  have c1 := (ho1.cell 1).trans (rfl : #[Value.pointer (some ⟨b, 0, none⟩), v][1]? = some v)
  clear e2 ho1 hch1 H1 HB HCC
  go_wp2_with (at_builtin; refine wpList_append_run rfl _ _ _ _ rfl _ _ rfl rfl _ _ E2.out ?_)
  go_ret2
  exact ⟨rfl, hfin.out⟩
theorem chg_freeze (w : World) (p : Addr) (n : Nat) : Chg (fun b => b = p.block) w (w.freeze p n) := by
  unfold World.freeze
  split
  · exact Chg.refl _ _
  · exact ⟨rfl, rfl, rfl, by simp, fun b hb hn => by
      show (w.heap.modify p.block _)[b]? = _
      rw [Array.getElem?_modify, if_neg (fun e => hn e.symm)]⟩
set_option maxHeartbeats 2000000 in
/-- String of what is not empty: the buffer is frozen; nothing else turns. -/
theorem string_bu {T : TypeId} {B b : Nat} {v : Value} {l : List UInt8} {w : World} (h : Bu T B b v l w) (h0 : l ≠ []) :
    Calls Tryz.prog 26 #[.pointer (some ⟨b, 0, none⟩)] w fun e w' => e = .returned (.string (mk l)) ∧ Chg (fun x => v.ownBlock = some x) w w' := by
  have hl0 : l.length ≠ 0 := by simpa using h0
  obtain ⟨p, -, hbk⟩ := h.box
  have hown := h.row
  obtain ⟨g, cap, cur, rfl, hbg, hg, hnc, hcm, hcs, htake⟩ : ∃ g cap cur, v = .slice (some ⟨g, 0, none⟩) l.length cap ∧ B ≤ g ∧ w.heap[g]? = some (.cells cur 5 (0, 0)) ∧ l.length ≤ cap ∧ cap ≤ maxLen ∧ cur.size = cap * 1 ∧ cur.toList.take (l.length * 1) = Lib.byteCells l := by
    rcases hown.2 with ⟨_, hz⟩ | ⟨g, cap, cur, hv, r⟩
    · exact absurd hz hl0
    · exact ⟨g, cap, cur, hv, r⟩
  have c1 : w.drew.cell? ⟨b, 1, none⟩ = some (.slice (some ⟨g, 0, none⟩) l.length cap) := by
    have : w.drew.heap[b]? = some (.cells #[p, .slice (some ⟨g, 0, none⟩) l.length cap] T (0, 0)) := hbk
    rw [Lib.cell_of_heap this]; rfl
  have hSD : (Builtin.unsafeSliceData_ #[33] 87 #[.slice (some ⟨g, 0, none⟩) l.length cap]).run Tryz.prog w.drew = .ok (.pointer (some ⟨g, 0, none⟩)) w.drew :=
    Lib.run_unsafeSliceData_row _ _ _ _ _ _ (by omega)
  have hUS : (Builtin.unsafeString_ #[87, 3] 9 #[.pointer (some ⟨g, 0, none⟩), .int .i64 l.length]).run Tryz.prog w.drew = .ok (.string ⟨l.toArray⟩) (w.drew.freeze ⟨g, 0, none⟩ l.length) := by
    refine Lib.run_unsafeString_row w.drew 87 3 9 5 Tryz.underlying87 cellsByte g cur.size (by have hg' : w.drew.heap[g]? = some (.cells cur 5 (0, 0)) := hg; simp [World.shape?, hg']) l h0 (by omega) (by unfold maxLen at hcm; omega) ?_
    intro j x hx
    have := hown.cells (g := g) rfl j (.int .u8 x.toNat) (by simp [Lib.byteCells, hx])
    exact this
  have HF : Hid (Chg (fun x => (Value.slice (some ⟨g, 0, none⟩) l.length cap).ownBlock = some x) w (w.drew.freeze ⟨g, 0, none⟩ l.length)) := hid (by
    have k1 : Chg (fun x => x = g) w w.drew := Chg.of_below (Below.drew (Below.refl _ _))
    exact (k1.trans (chg_freeze w.drew ⟨g, 0, none⟩ l.length) (fun x e => .inl e)).mono (fun x e => by rw [e]; rfl))
  clear h hown hg htake hbk
  go_enter Tryz.func26, Tryz.ntmps26
  go_wp2
  go_region
  all_goals (go_wp2; go_ret; exact ⟨rfl, HF.out⟩)
end Go.Proofs.YtbccikefccdekaaGreatDoor

