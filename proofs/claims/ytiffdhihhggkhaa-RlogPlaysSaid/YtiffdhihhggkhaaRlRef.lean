/-
  LAYER 8 (rlog), THE DOCUMENT's LOG: how it lies in memory; Last, Term, Newer, Slice.
-/
import Derived.Test.YtiffdhihhggkhaaMq5
import Derived.BigQuiet
import Derived.Deep.DeepCutAuto
namespace Go.Proofs.Ytiffdhihhggkhaa
open Go.RowKit
set_option linter.unusedVariables false
set_option maxRecDepth 100000

/-- The document's log: its cells, its rows, in the blocks F. -/
structure RfIs (w : World) (F : Nat → Prop) (r : Nat) (s : Rl) (vv lv : Value) : Prop where
  box : own w r #[.int .i64 s.bi, .int .i64 s.bt, vv, .string s.bd, lv] 70
  vot : RAt numTy w vv s.vot
  ents : RAt enTy w lv s.ents
  fr : F r
  fv : ∀ b, vv.ownBlock = some b → F b
  fl : ∀ b, lv.ownBlock = some b → F b
  lt : ∀ b, F b → b < w.heap.size
  nv : vv.ownBlock ≠ some r
  nl : lv.ownBlock ≠ some r
def rfRep : RlRep where
  Is := fun w F r s => ∃ vv lv, RfIs w F r s vv lv
  same := fun {w w' F r s} h hz hs => by
    obtain ⟨vv, lv, h⟩ := h
    exact ⟨vv, lv, h.box.same (hs _ h.fr), h.vot.same (fun b e _ => hs b (h.fv b e)) hz, h.ents.same (fun b e _ => hs b (h.fl b e)) hz, h.fr, h.fv, h.fl, fun b e => Nat.lt_of_lt_of_le (h.lt b e) hz, h.nv, h.nl⟩
  lt := fun {w F r s} h => by
    obtain ⟨vv, lv, h⟩ := h
    exact h.lt
/-- What a call reads: the log's cells. -/
structure RfC (w : World) (r : Nat) (s : Rl) (va : Option Addr) (vc : Nat) (la : Option Addr) (lc : Nat) : Prop where
  c0 : w.cell? ⟨r, 0, none⟩ = some (.int .i64 s.bi)
  c1 : w.cell? ⟨r, 1, none⟩ = some (.int .i64 s.bt)
  c2 : w.cell? ⟨r, 2, none⟩ = some (.slice va s.vot.length vc)
  c3 : w.cell? ⟨r, 3, none⟩ = some (.string s.bd)
  c4 : w.cell? ⟨r, 4, none⟩ = some (.slice la s.ents.length lc)
theorem rf_c {w : World} {F : Nat → Prop} {r : Nat} {s : Rl} (h : rfRep.Is w F r s) : ∃ va vc la lc, RfIs w F r s (.slice va s.vot.length vc) (.slice la s.ents.length lc) ∧ ∀ wx, Below w.heap.size w wx → RfC wx r s va vc la lc := by
  obtain ⟨vv, lv, h⟩ := h
  obtain ⟨va, vc, rfl, _⟩ := id h.vot
  obtain ⟨la, lc, rfl, _⟩ := id h.ents
  refine ⟨va, vc, la, lc, h, fun wx hb => ?_⟩
  have o := h.box.same (hb.block _ h.box.lt)
  exact ⟨(o.cell 0).trans rfl, (o.cell 1).trans rfl, (o.cell 2).trans rfl, (o.cell 3).trans rfl, (o.cell 4).trans rfl⟩
def RfPost (w : World) (v : Value) (e : Ending) (w' : World) : Prop := e = .returned v ∧ Below w.heap.size w w'
set_option maxHeartbeats 2000000 in
theorem rfLast_any {w : World} {F : Nat → Prop} {r : Nat} {s : Rl} (h : rfRep.Is w F r s) (hB : RlB s) : Calls Try.prog 23 #[.pointer (some ⟨r, 0, none⟩)] w (RfPost w (.int .i64 s.last)) := by
  obtain ⟨va, vc, la, lc, _, hc⟩ := rf_c h
  obtain ⟨c0, c1, c2, c3, c4⟩ := hc w (Below.refl _ _)
  have h1 := hB.bi
  have h2 := hB.len
  have h3 := hB.ok.pos
  have hwr : IntKind.i64.wrap (s.bi + (s.ents.length : Int)) = s.bi + s.ents.length := by rw [IntKind.wrap_i64]; omega
  have HBw := hid (fun n => below_drew (Below.refl w.heap.size w) n)
  clear h hc hB h1 h2 h3
  unfold Rl.last
  generalize s.bi = bi at *
  generalize s.ents.length = n at *
  go_enter Try.func23, Try.ntmps23
  go_wp2
  go_quiet (fail)
  all_goals
    go_wp2
    go_ret
    exact ⟨rfl, HBw.out _⟩
theorem i64_wr {n : Int} (h : I64' n) : IntKind.i64.wrap n = n := by rw [IntKind.wrap_i64]; unfold I64' at h; omega
set_option maxHeartbeats 4000000 in
theorem rfTerm_any {w : World} {F : Nat → Prop} {r : Nat} {s : Rl} (i : Int) (h : rfRep.Is w F r s) (hB : RlB s) (hi : I64' i) : Calls Try.prog 40 #[.pointer (some ⟨r, 0, none⟩), .int .i64 i] w (RfPost w (.tuple #[.int .i64 ((termL s i).getD 0), .bool (termL s i).isSome])) := by
  have HL := hid (fun wx (hb : Below w.heap.size w wx) => rfLast_any (rfRep.same h hb.size (fun b e => hb.block b (rfRep.lt h b e))) hB)
  obtain ⟨va, vc, la, lc, hI, hc⟩ := rf_c h
  have HC := hid hc
  obtain ⟨c0, c1, c2, c3, c4⟩ := hc w (Below.refl _ _)
  have h1 := hB.bi
  have h2 := hB.len
  have h3 := hB.ok.pos
  have HBw := hid (fun n => below_drew (Below.refl w.heap.size w) n)
  by_cases e1 : i = s.bi
  · have ht : termL s i = some s.bt := by unfold termL; rw [if_pos e1]
    rw [ht]
    have q1 : (i == s.bi) = true := by rw [e1]; exact beq_self_eq_true _
    clear h hc hB h1 h2 h3 HL HC e1 ht hI
    go_enter Try.func40, Try.ntmps40
    go_wp2
    go_ret2
    exact ⟨rfl, Below.refl _ _⟩
  have q1 : (i == s.bi) = false := beq_false_of_ne e1
  by_cases e2 : i < s.bi
  · have ht : termL s i = none := termL_none (.inl e2)
    rw [ht]
    clear h hc hB h1 h2 h3 HL HC e1 ht hI
    go_enter Try.func40, Try.ntmps40
    go_wp2
    go_ret2
    exact ⟨rfl, Below.refl _ _⟩
  have e2' : s.bi ≤ i := by omega
  by_cases e3 : s.last < i
  · have ht : termL s i = none := termL_none (.inr e3)
    rw [ht]
    have C1 := hid (HL.out w (Below.refl _ _))
    clear h hc hB h1 h2 h3 HL HC e1 ht hI
    go_enter Try.func40, Try.ntmps40
    go_wp2_with (go_at_call 23; (with_reducible refine C1.out.mono ?_); rintro e w1 ⟨rfl, hb⟩)
    go_ret2
    exact ⟨rfl, hb⟩
  have e3' : i ≤ s.last := by omega
  obtain ⟨k, hk⟩ : ∃ k : Nat, i = s.bi + 1 + k := ⟨(i - s.bi - 1).toNat, by omega⟩
  have hkl : k < s.ents.length := by unfold Rl.last at e3'; omega
  obtain ⟨x, hx⟩ : ∃ x, s.ents[k]? = some x := ⟨_, List.getElem?_eq_getElem hkl⟩
  have ht : termL s i = some x.term := by rw [hk]; exact termL_at k hx
  rw [ht]
  have hkI : (k : Int) < (s.ents.length : Int) := by omega
  have hkI0 : (0 : Int) ≤ (k : Int) := by omega
  have hw1 : IntKind.i64.wrap (i - s.bi) = i - s.bi := by rw [IntKind.wrap_i64]; omega
  have hw2 : IntKind.i64.wrap (i - s.bi - 1) = (k : Int) := by rw [IntKind.wrap_i64]; omega
  obtain ⟨sb, so, rfl, hce⟩ : ∃ sb so, la = some ⟨sb, so, none⟩ ∧ ∀ wx, Below w.heap.size w wx → wx.cell? ⟨sb, so + k * 4, none⟩ = some (.int .i64 x.idx) ∧ wx.cell? ⟨sb, so + k * 4 + 1, none⟩ = some (.int .i64 x.term) ∧ wx.cell? ⟨sb, so + k * 4 + 2, none⟩ = some (.int .i64 x.kind) ∧ wx.cell? ⟨sb, so + k * 4 + 3, none⟩ = some (.string x.dt) := by
    obtain ⟨a', cap', e, hat⟩ := en_at hI.ents
    cases e
    exact hat k x hx
  have HCE := hid hce
  have C1 := hid (HL.out w (Below.refl _ _))
  have HKK := hid hk
  clear h hc hB h1 h2 h3 HL e1 ht hI hk hkl hx hce e2
  go_enter Try.func40, Try.ntmps40
  go_upto_region 5 with (go_at_call 23; (with_reducible refine C1.out.mono ?_); rintro e w1 ⟨rfl, hb⟩)
  obtain ⟨c0, c1, c2, c3, c4⟩ := HC.out w1 hb
  obtain ⟨d0, d1, d2, d3⟩ := HCE.out w1 hb
  have HBn := hid (fun n => below_drew hb n)
  go_wp2
  go_quiet (fail)
  all_goals
    go_wp2
    go_ret2
    exact ⟨rfl, HBn.out _⟩
end Go.Proofs.Ytiffdhihhggkhaa
