/-
  LAYER 7 (msg), THE PROGRAM: a list's item; a message's base.
-/
import Derived.Test.YtppjojjejabaeaaMsSet
import Derived.Deep.RegionHeldLaw
namespace Go.Proofs.Ytppjojjejabaeaa
open Go.RowKit
set_option linter.unusedVariables false
set_option maxRecDepth 100000

def numTyL : RowTy Int := ⟨108, 3, 1, 8, fun x => [.int .i64 x], .int .i64 0⟩
theorem numTyL_ok : numTyL.Ok := ⟨fun _ => rfl, fun x u hu => by simp [numTyL] at hu; subst hu; rfl, by decide, Try.underlying108, by kernel_rfl, by kernel_rfl, rfl, by decide⟩
def enTyL : RowTy Me := ⟨132, 49, 4, 40, meCells, .agg #[.int .i64 0, .int .i64 0, .int .i64 0, .string ⟨#[]⟩]⟩
theorem enTyL_ok : enTyL.Ok := ⟨fun _ => rfl, fun x u hu => by simp [enTyL, meCells] at hu; rcases hu with rfl | rfl | rfl | rfl <;> rfl, by decide, Try.underlying132, by kernel_rfl, by kernel_rfl, rfl, by decide⟩
theorem rMid_numL {w wr : World} {v : Value} {L : List Int} : RMid numTy w wr v L ↔ RMid numTyL w wr v L := ⟨fun h => ⟨h.row, h.new, h.below⟩, fun h => ⟨h.row, h.new, h.below⟩⟩
theorem rMid_enL {w wr : World} {v : Value} {L : List Me} : RMid enTy w wr v L ↔ RMid enTyL w wr v L := ⟨fun h => ⟨h.row, h.new, h.below⟩, fun h => ⟨h.row, h.new, h.below⟩⟩

/-- A list under way: its block lb holds the slice; the row is the list's own. -/
structure LsAt {α : Type} (R : RowTy α) (T : TypeId) (w0 w : World) (lb : Nat) (a : Option Addr) (cap : Nat) (xs : List α) : Prop where
  box : own w lb #[.slice a xs.length cap] T
  row : RMid R w0 w (.slice a xs.length cap) xs
  ne : (Value.slice a xs.length cap).ownBlock ≠ some lb
  ge : w0.heap.size ≤ lb
theorem LsAt.later {α : Type} {R : RowTy α} {T : TypeId} {w0 w w' : World} {lb : Nat} {a : Option Addr} {cap : Nat} {xs : List α} (h : LsAt R T w0 w lb a cap xs) (hb : Below w.heap.size w w') : LsAt R T w0 w' lb a cap xs :=
  ⟨h.box.same (hb.block _ h.box.lt), h.row.later hb, h.ne, h.ge⟩
theorem LsAt.chg {α : Type} {R : RowTy α} {T : TypeId} {w0 w w' : World} {lb : Nat} {a : Option Addr} {cap : Nat} {xs : List α} {S : Nat → Prop} (h : LsAt R T w0 w lb a cap xs) (hc : Chg S w w') (h1 : ¬ S lb) (h2 : ∀ x, (Value.slice a xs.length cap).ownBlock = some x → ¬ S x) (h3 : ∀ x, S x → w0.heap.size ≤ x) : LsAt R T w0 w' lb a cap xs :=
  ⟨h.box.chg hc h1, ⟨h.row.row.same (fun b e => hc.block b (h.row.row.lt b e) (h2 b e)), h.row.new, h.row.below.trans (hc.below h.row.below.size h3)⟩, h.ne, h.ge⟩
/-- One more at the list's end: what append makes, and the store. -/
theorem ls_push {α : Type} {R : RowTy α} (o : R.Ok) {T : TypeId} {w0 w : World} {lb : Nat} {a : Option Addr} {cap : Nat} {xs : List α} (h : LsAt R T w0 w lb a cap xs) (wx : World) (hwx : Below w.heap.size w wx) (x : α) (cs : Array Value) (ET ty : TypeId) (hc : cs.toList = R.cs x) (hl : xs.length ≤ 1000000) :
    ∃ a2 cap2 w5, (Builtin.append_ #[R.st, R.st] ty #[.slice a xs.length cap, .slice (some ⟨wx.heap.size, 0, none⟩) 1 1]).run Try.prog (wx.alloc (.cells cs ET)) = .ok (.slice a2 (xs.length + 1) cap2) w5 ∧
      w5.cell? ⟨lb, 0, none⟩ = some (.slice a xs.length cap) ∧ w5.frozen? ⟨lb, 0, none⟩ = false ∧
      Hid (LsAt R T w0 (w5.setCell ⟨lb, 0, none⟩ (.slice a2 (xs.length + 1) cap2)) lb a2 cap2 (xs ++ [x])) ∧ Hid (Chg (fun b => b = lb ∨ (Value.slice a xs.length cap).ownBlock = some b) w (w5.setCell ⟨lb, 0, none⟩ (.slice a2 (xs.length + 1) cap2))) ∧
      Hid (∀ b, (Value.slice a2 (xs ++ [x]).length cap2).ownBlock = some b → (Value.slice a xs.length cap).ownBlock = some b ∨ w.heap.size ≤ b) := by
  have hbA : Below w.heap.size w (wx.alloc (.cells cs ET)) := hwx.alloc hwx.size _
  have hX := h.later hbA
  have hu : RAt R (wx.alloc (.cells cs ET)) (.slice (some ⟨wx.heap.size, 0, none⟩) 1 1) [x] := rAt_box o (own.new wx cs ET) hc
  obtain ⟨a2, cap2, w5, hrun, hm5, hk5⟩ := hX.row.app o ty hu (by simp; omega)
  have hlen : (xs ++ [x]).length = xs.length + 1 := by simp
  obtain ⟨ao', cap', wr', hr', hown', hgr', hor'⟩ := run_app o (wx.alloc (.cells cs ET)) ty _ _ xs [x] hX.row.row hu (by simp; omega)
  have hsame := hrun.symm.trans hr'
  simp only [Result.ok.injEq] at hsame
  obtain ⟨hv', hw'⟩ := hsame
  subst hw'
  have hch : Chg (fun b => (Value.slice a xs.length cap).ownBlock = some b) (wx.alloc (.cells cs ET)) w5 := Chg.of_grown hgr'
  have hbx : own w5 lb #[.slice a xs.length cap] T := hX.box.chg hch h.ne
  have hnew : (Value.slice a2 (xs.length + 1) cap2).ownBlock ≠ some lb := by
    rw [show (Value.slice a2 (xs.length + 1) cap2) = _ from hv']
    rcases hor' with e | e
    · rw [e]; exact h.ne
    · rw [e]
      intro e2
      have h1 := h.box.lt
      have h2 := hbA.size
      cases e2
      omega
  have hset : Chg (fun b => b = lb) w5 (w5.setCell ⟨lb, 0, none⟩ (.slice a2 (xs.length + 1) cap2)) := (Chg.setCell w5 ⟨lb, 0, none⟩ _).mono (fun b e => e)
  refine ⟨a2, cap2, w5, hrun, (hbx.cell 0).trans rfl, hbx.frozen 0, hid ?_, hid ?_, hid ?_⟩
  · refine ⟨?_, ?_, by rw [hlen]; exact hnew, h.ge⟩
    · rw [hlen]; exact hbx.set 0 _
    · rw [hlen]
      refine ⟨hm5.row.same (fun b e => hset.block b (hm5.row.lt b e) (fun e2 => hnew (by rw [← e2]; exact e))), hm5.new, hm5.below.trans (hset.below hm5.below.size (fun b e => by rw [e]; exact h.ge))⟩
  · exact ((Chg.of_below hbA).trans (hch.mono (fun b e => .inr e)) (fun b e => .inl e)).trans (hset.mono (fun b e => .inl e)) (fun b e => .inl e)
  · intro b e
    rw [hlen, show (Value.slice a2 (xs.length + 1) cap2) = _ from hv'] at e
    rcases hor' with e1 | e1
    · exact .inl (e1.symm.trans e)
    · have h2 := hbA.size
      rw [e1] at e
      cases e
      exact .inr h2
set_option maxHeartbeats 4000000 in
theorem item_int {w0 w : World} {lb : Nat} {a : Option Addr} {cap : Nat} {xs : List Int} (h : LsAt numTyL 108 w0 w lb a cap xs) (x : Int) (hl : xs.length ≤ 1000000) :
    Calls Try.prog 79 #[.pointer (some ⟨lb, 0, none⟩), .int .i64 x] w fun e w' => e = .returned (.tuple #[]) ∧ ∃ a2 cap2, LsAt numTyL 108 w0 w' lb a2 cap2 (xs ++ [x]) ∧ Chg (fun b => b = lb ∨ (Value.slice a xs.length cap).ownBlock = some b) w w' ∧ ∀ b, (Value.slice a2 (xs ++ [x]).length cap2).ownBlock = some b → (Value.slice a xs.length cap).ownBlock = some b ∨ w.heap.size ≤ b := by
  obtain ⟨a2, cap2, w5, hrun, c5, f5, HL, HC, HNw⟩ := ls_push numTyL_ok h w (Below.refl _ _) x #[.int .i64 x] 3 108 rfl hl
  have c0 : w.cell? ⟨lb, 0, none⟩ = some (.slice a xs.length cap) := (h.box.cell 0).trans rfl
  have HRun : Hid ((Builtin.append_ #[108, 108] 108 #[.slice a xs.length cap, .slice (some ⟨w.heap.size, 0, none⟩) 1 1]).run Try.prog (w.alloc (.cells #[.int .i64 x] 3)) = .ok (.slice a2 (xs.length + 1) cap2) w5) := hid hrun
  have cA : (w.alloc (.cells #[.int .i64 x] 3)).cell? ⟨lb, 0, none⟩ = some (.slice a xs.length cap) := ((h.box.al _).cell 0).trans rfl
  clear hrun h
  go_enter Try.func79, Try.ntmps79
  go_wp2_with (at_builtin; refine wpList_append_at HRun.out (by with_reducible rfl) rfl _ _ rfl rfl rfl rfl ?_)
  go_end0
  exact ⟨rfl, a2, cap2, HL.out, HC.out, HNw.out⟩
theorem en_item_int : Enters 79 := enters_of Try.func79 (by kernel_rfl) rfl
set_option maxHeartbeats 4000000 in
theorem set_m_base {mb : Nat} {w : World} {cs : Array Value} (h : own w mb cs 93) (hk : cs.size = 14) (x y : Int) (p : Option Addr) (q r : Nat) (d : ByteArray) :
    Calls Try.prog 75 #[.pointer (some ⟨mb, 0, none⟩), .agg #[.int .i64 x, .int .i64 y, .slice p q r, .string d]] w fun e w' => e = .returned (.tuple #[]) ∧ own w' mb ((((cs.setIfInBounds 9 (.int .i64 x)).setIfInBounds 10 (.int .i64 y)).setIfInBounds 11 (.slice p q r)).setIfInBounds 12 (.string d)) 93 ∧ Chg (fun b => b = mb) w w' := by
  obtain ⟨v0, hv0⟩ := getCell (cs := cs) (k := 9) (by omega)
  obtain ⟨v1, hv1⟩ := getCell (cs := cs) (k := 10) (by omega)
  obtain ⟨v2, hv2⟩ := getCell (cs := cs) (k := 11) (by omega)
  obtain ⟨v3, hv3⟩ := getCell (cs := cs) (k := 12) (by omega)
  have hb1 : Below w.heap.size w (w.alloc (.cells #[.int .i64 x, .int .i64 y, .slice p q r, .string d] 25)) := (Below.refl _ _).alloc (Nat.le_refl _) _
  obtain ⟨w1, hw1⟩ : ∃ w1, w.alloc (.cells #[.int .i64 x, .int .i64 y, .slice p q r, .string d] 25) = w1 := ⟨_, rfl⟩
  have h1 : own w1 mb cs 93 := by rw [← hw1]; exact h.al _
  have bx : own w1 w.heap.size #[.int .i64 x, .int .i64 y, .slice p q r, .string d] 25 := by rw [← hw1]; exact own.new w _ _
  rw [hw1] at hb1
  have b0 : w1.cell? ⟨w.heap.size, 0, none⟩ = some (.int .i64 x) := (bx.cell 0).trans rfl
  have b1 : w1.cell? ⟨w.heap.size, 1, none⟩ = some (.int .i64 y) := (bx.cell 1).trans rfl
  have b2 : w1.cell? ⟨w.heap.size, 2, none⟩ = some (.slice p q r) := (bx.cell 2).trans rfl
  have b3 : w1.cell? ⟨w.heap.size, 3, none⟩ = some (.string d) := (bx.cell 3).trans rfl
  have c0 : w1.cell? ⟨mb, 9, none⟩ = some v0 := (h1.cell 9).trans hv0
  have f0 := h1.frozen 9
  have h2 := h1.set 9 (.int .i64 x)
  have c1 : (w1.setCell ⟨mb, 9, none⟩ (.int .i64 x)).cell? ⟨mb, 10, none⟩ = some v1 := (h2.cell 10).trans (by rw [Array.getElem?_setIfInBounds_ne (by decide)]; exact hv1)
  have f1 := h2.frozen 10
  have h3 := h2.set 10 (.int .i64 y)
  have c2 : ((w1.setCell ⟨mb, 9, none⟩ (.int .i64 x)).setCell ⟨mb, 10, none⟩ (.int .i64 y)).cell? ⟨mb, 11, none⟩ = some v2 := (h3.cell 11).trans (by rw [Array.getElem?_setIfInBounds_ne (by decide), Array.getElem?_setIfInBounds_ne (by decide)]; exact hv2)
  have f2 := h3.frozen 11
  have h4 := h3.set 11 (.slice p q r)
  have c3 : (((w1.setCell ⟨mb, 9, none⟩ (.int .i64 x)).setCell ⟨mb, 10, none⟩ (.int .i64 y)).setCell ⟨mb, 11, none⟩ (.slice p q r)).cell? ⟨mb, 12, none⟩ = some v3 := (h4.cell 12).trans (by rw [Array.getElem?_setIfInBounds_ne (by decide), Array.getElem?_setIfInBounds_ne (by decide), Array.getElem?_setIfInBounds_ne (by decide)]; exact hv3)
  have f3 := h4.frozen 12
  have HO := hid (h4.set 12 (.string d))
  have HC : Hid (Chg (fun b => b = mb) w ((((w1.setCell ⟨mb, 9, none⟩ (.int .i64 x)).setCell ⟨mb, 10, none⟩ (.int .i64 y)).setCell ⟨mb, 11, none⟩ (.slice p q r)).setCell ⟨mb, 12, none⟩ (.string d))) := hid ((((((Chg.of_below hb1).trans (Chg.setCell w1 ⟨mb, 9, none⟩ _) (fun b e => .inl e)).trans (Chg.setCell _ ⟨mb, 10, none⟩ _) (fun b e => .inl e)).trans (Chg.setCell _ ⟨mb, 11, none⟩ _) (fun b e => .inl e)).trans (Chg.setCell _ ⟨mb, 12, none⟩ _) (fun b e => .inl e)))
  clear h1 h2 h3 h4 bx hb1 h hv0 hv1 hv2 hv3 hk
  go_enter Try.func75, Try.ntmps75
  go_wp2
  go_end0
  exact ⟨rfl, HO.out, HC.out⟩
theorem en_m_base : Enters 75 := enters_of Try.func75 (by kernel_rfl) rfl
set_option maxHeartbeats 8000000 in
theorem item_ent {w0 w : World} {lb : Nat} {a : Option Addr} {cap : Nat} {xs : List Me} (h : LsAt enTyL 132 w0 w lb a cap xs) (x : Me) (hl : xs.length ≤ 1000000) :
    Calls Try.prog 98 #[.pointer (some ⟨lb, 0, none⟩), .agg #[.int .i64 x.idx, .int .i64 x.term, .int .i64 x.kind, .string x.dt]] w fun e w' => e = .returned (.tuple #[]) ∧ ∃ a2 cap2, LsAt enTyL 132 w0 w' lb a2 cap2 (xs ++ [x]) ∧ Chg (fun b => b = lb ∨ (Value.slice a xs.length cap).ownBlock = some b) w w' ∧ ∀ b, (Value.slice a2 (xs ++ [x]).length cap2).ownBlock = some b → (Value.slice a xs.length cap).ownBlock = some b ∨ w.heap.size ≤ b := by
  have hb1 : Below w.heap.size w (w.alloc (.cells #[.int .i64 x.idx, .int .i64 x.term, .int .i64 x.kind, .string x.dt] 49)) := (Below.refl _ _).alloc (Nat.le_refl _) _
  obtain ⟨w1, hw1⟩ : ∃ w1, w.alloc (.cells #[.int .i64 x.idx, .int .i64 x.term, .int .i64 x.kind, .string x.dt] 49) = w1 := ⟨_, rfl⟩
  rw [hw1] at hb1
  have bx : own w1 w.heap.size #[.int .i64 x.idx, .int .i64 x.term, .int .i64 x.kind, .string x.dt] 49 := by rw [← hw1]; exact own.new w _ _
  obtain ⟨a2, cap2, w5, hrun, c5, f5, HL, HC, HNw⟩ := ls_push enTyL_ok h w1.drew (Below.drew hb1) x #[.int .i64 x.idx, .int .i64 x.term, .int .i64 x.kind, .string x.dt] 49 132 rfl hl
  have HRun : Hid ((Builtin.append_ #[132, 132] 132 #[.slice a xs.length cap, .slice (some ⟨w1.heap.size, 0, none⟩) 1 1]).run Try.prog (w1.alloc (.cells #[.int .i64 x.idx, .int .i64 x.term, .int .i64 x.kind, .string x.dt] 49)).drew = .ok (.slice a2 (xs.length + 1) cap2) w5) := hid hrun
  have cA : w1.cell? ⟨lb, 0, none⟩ = some (.slice a xs.length cap) := ((h.box.same (hb1.block _ h.box.lt)).cell 0).trans rfl
  have cB : (w1.alloc (.cells #[.int .i64 x.idx, .int .i64 x.term, .int .i64 x.kind, .string x.dt] 49)).cell? ⟨lb, 0, none⟩ = some (.slice a xs.length cap) := (((h.box.same (hb1.block _ h.box.lt)).al _).cell 0).trans rfl
  have b0 : w1.cell? ⟨w.heap.size, 0, none⟩ = some (.int .i64 x.idx) := (bx.cell 0).trans rfl
  have b1 : w1.cell? ⟨w.heap.size, 1, none⟩ = some (.int .i64 x.term) := (bx.cell 1).trans rfl
  have b2 : w1.cell? ⟨w.heap.size, 2, none⟩ = some (.int .i64 x.kind) := (bx.cell 2).trans rfl
  have b3 : w1.cell? ⟨w.heap.size, 3, none⟩ = some (.string x.dt) := (bx.cell 3).trans rfl
  clear hrun h hb1 bx
  go_enter Try.func98, Try.ntmps98
  go_wp2
  go_region_law (first | (refine step_append_at HRun.out (by with_reducible rfl) rfl _ _ rfl rfl rfl rfl ?_))
  all_goals
    go_end0
    exact ⟨rfl, a2, cap2, HL.out, HC.out, HNw.out⟩
theorem en_item_ent : Enters 98 := enters_of Try.func98 (by kernel_rfl) rfl
end Go.Proofs.Ytppjojjejabaeaa
