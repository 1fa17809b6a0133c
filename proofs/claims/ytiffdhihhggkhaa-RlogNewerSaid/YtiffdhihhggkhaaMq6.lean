/-
  PlA, PlClone, PlB, PlOwn, PlAdd, PlNew, PlSlice, in one text.
-/
import Derived.Test.YtiffdhihhggkhaaMq5
import Derived.BigQuiet
import Derived.Deep.DeepCutAuto
import Derived.Test.YtiffdhihhggkhaaMq2
import Derived.Deep.AppendLies
import Derived.RegionTactic
/-
  LAYER 8 (rlog), THE PROGRAM's LOG: how it lies in memory; Last, steps, Term, has.
-/
namespace Go.Proofs.Ytiffdhihhggkhaa
open Go.RowKit
set_option linter.unusedVariables false
set_option maxRecDepth 100000

/-- The program's log: its cells, its voters' row, its entries' own row, in the blocks F. -/
structure PlIs (w : World) (F : Nat → Prop) (r : Nat) (s : Rl) (vv lv : Value) : Prop where
  box : own w r #[.int .i64 s.bi, .int .i64 s.bt, vv, .string s.bd, lv] 68
  vot : RAt numTy w vv s.vot
  ents : ROwn enTy w lv s.ents
  fr : F r
  fv : ∀ b, vv.ownBlock = some b → F b
  fl : ∀ b, lv.ownBlock = some b → F b
  lt : ∀ b, F b → b < w.heap.size
  nv : vv.ownBlock ≠ some r
  nl : lv.ownBlock ≠ some r
  vl : ∀ b, vv.ownBlock = some b → lv.ownBlock ≠ some b
def plRep : RlRep where
  Is := fun w F r s => ∃ vv lv, PlIs w F r s vv lv
  same := fun {w w' F r s} h hz hs => by
    obtain ⟨vv, lv, h⟩ := h
    exact ⟨vv, lv, h.box.same (hs _ h.fr), h.vot.same (fun b e _ => hs b (h.fv b e)) hz, h.ents.same (fun b e => hs b (h.fl b e)), h.fr, h.fv, h.fl, fun b e => Nat.lt_of_lt_of_le (h.lt b e) hz, h.nv, h.nl, h.vl⟩
  lt := fun {w F r s} h => by
    obtain ⟨vv, lv, h⟩ := h
    exact h.lt
/-- What a call reads: the log's cells. -/
structure PlC (w : World) (r : Nat) (s : Rl) (va : Option Addr) (vc : Nat) (la : Option Addr) (lc : Nat) : Prop where
  c0 : w.cell? ⟨r, 0, none⟩ = some (.int .i64 s.bi)
  c1 : w.cell? ⟨r, 1, none⟩ = some (.int .i64 s.bt)
  c2 : w.cell? ⟨r, 2, none⟩ = some (.slice va s.vot.length vc)
  c3 : w.cell? ⟨r, 3, none⟩ = some (.string s.bd)
  c4 : w.cell? ⟨r, 4, none⟩ = some (.slice la s.ents.length lc)
theorem pl_c {w : World} {F : Nat → Prop} {r : Nat} {s : Rl} (h : plRep.Is w F r s) : ∃ va vc la lc, PlIs w F r s (.slice va s.vot.length vc) (.slice la s.ents.length lc) ∧ ∀ wx, Below w.heap.size w wx → PlC wx r s va vc la lc := by
  obtain ⟨vv, lv, h⟩ := h
  obtain ⟨va, vc, rfl, _⟩ := id h.vot
  obtain ⟨la, lc, rfl, _⟩ := id h.ents.rAt
  refine ⟨va, vc, la, lc, h, fun wx hb => ?_⟩
  have o := h.box.same (hb.block _ h.box.lt)
  exact ⟨(o.cell 0).trans rfl, (o.cell 1).trans rfl, (o.cell 2).trans rfl, (o.cell 3).trans rfl, (o.cell 4).trans rfl⟩
theorem pl_later {w wx : World} {F : Nat → Prop} {r : Nat} {s : Rl} (h : plRep.Is w F r s) (hb : Below w.heap.size w wx) : plRep.Is wx F r s := plRep.same h hb.size (fun b e => hb.block b (plRep.lt h b e))
def PlPost (w : World) (v : Value) (e : Ending) (w' : World) : Prop := e = .returned v ∧ Below w.heap.size w w'
theorem p64_wr {n : Int} (h : I64' n) : IntKind.i64.wrap n = n := by rw [IntKind.wrap_i64]; unfold I64' at h; omega
/-- steps. -/
def stp (s : Rl) (i : Int) : Int := (i - s.bi) % 18446744073709551616
theorem stp_range (s : Rl) (i : Int) : 0 ≤ stp s i ∧ stp s i < 18446744073709551616 := by unfold stp; omega
theorem stp_zero {s : Rl} (hB : RlB s) {i : Int} (hi : I64' i) : stp s i = 0 ↔ i = s.bi := by
  have := hB.bi
  have := hB.ok.pos
  unfold I64' at hi
  unfold stp
  omega
theorem stp_in {s : Rl} (hB : RlB s) {i : Int} (hi : I64' i) : (stp s i ≤ s.ents.length ↔ s.bi ≤ i ∧ i ≤ s.last) ∧ (s.bi ≤ i ∧ i ≤ s.last → stp s i = i - s.bi) := by
  have := hB.bi
  have := hB.ok.pos
  have := hB.len
  unfold I64' at hi
  unfold stp Rl.last
  constructor
  · constructor
    · intro h; omega
    · intro h; omega
  · intro h; omega
set_option maxHeartbeats 2000000 in
theorem plLast_any {w : World} {F : Nat → Prop} {r : Nat} {s : Rl} (h : plRep.Is w F r s) (hB : RlB s) : Calls Try.prog 24 #[.pointer (some ⟨r, 0, none⟩)] w (PlPost w (.int .i64 s.last)) := by
  obtain ⟨va, vc, la, lc, _, hc⟩ := pl_c h
  obtain ⟨c0, c1, c2, c3, c4⟩ := hc w (Below.refl _ _)
  have h1 := hB.bi
  have h2 := hB.len
  have h3 := hB.ok.pos
  have hwr : IntKind.i64.wrap (s.bi + (s.ents.length : Int)) = s.bi + s.ents.length := by rw [IntKind.wrap_i64]; omega
  have HBw := hid (fun n => below_drew (Below.refl w.heap.size w) n)
  clear h hc hB h1 h2 h3
  unfold Rl.last
  generalize s.bi = bi at *
  generalize s.ents.length = n at *
  go_enter Try.func24, Try.ntmps24
  go_wp2
  go_quiet (fail)
  all_goals
    go_wp2
    go_ret
    exact ⟨rfl, HBw.out _⟩
theorem plSteps_any {w : World} {F : Nat → Prop} {r : Nat} {s : Rl} (i : Int) (h : plRep.Is w F r s) (hi : I64' i) : Calls Try.prog 42 #[.pointer (some ⟨r, 0, none⟩), .int .i64 i] w (PlPost w (.int .u64 (stp s i))) := by
  obtain ⟨va, vc, la, lc, _, hc⟩ := pl_c h
  obtain ⟨c0, c1, c2, c3, c4⟩ := hc w (Below.refl _ _)
  have hwr : IntKind.u64.wrap (IntKind.u64.wrap i - IntKind.u64.wrap s.bi) = stp s i := by
    rw [IntKind.wrap_u64, IntKind.wrap_u64, IntKind.wrap_u64]; unfold stp; omega
  clear h hc hi
  generalize stp s i = st at *
  generalize s.bi = bi at *
  go_enter Try.func42, Try.ntmps42
  go_wp2
  go_ret
  exact ⟨rfl, Below.refl _ _⟩
end Go.Proofs.Ytiffdhihhggkhaa

/-
  LAYER 8 (rlog), THE PROGRAM: slices.Clone of numbers, of entries.
-/
namespace Go.Proofs.Ytiffdhihhggkhaa
open Go.RowKit
set_option linter.unusedVariables false
set_option maxRecDepth 100000

def ClPost {α : Type} (T : RowTy α) (w : World) (L : List α) (e : Ending) (w' : World) : Prop := ∃ a cap, e = .returned (.slice a L.length cap) ∧ RMid T w w' (.slice a L.length cap) L
set_option maxHeartbeats 4000000 in
theorem cloneN_any {w : World} {v : Value} {L : List Int} (h : RAt numTy w v L) (hL : L.length ≤ 1000000) :
    Calls Try.prog 52 #[v] w (ClPost numTy w L) := by
  have hr := h
  obtain ⟨ao, cap, rfl, hlc, hnone, _, _⟩ := h
  cases ao with
  | none =>
    have h0 : cap = 0 := hnone rfl
    subst h0
    have hl0 : L = [] := List.length_eq_zero_iff.1 (by omega)
    subst hl0
    have HF : Hid (ClPost numTy w [] (.returned (.slice none 0 0)) w) := hid ⟨none, 0, rfl, rMid_nil w⟩
    clear hr hlc hnone
    have hq : ∀ wx, Sem.run Try.prog (binOp .eql 31 (.slice none 0 0) (.slice none 0 0)) wx = .ok (.bool true) wx := fun wx => by rfl
    simp only [List.length_nil]
    go_enter Try.func52, Try.ntmps52
    go_wp2
    go_ret
    exact HF.out
  | some ad =>
    have hb : Below w.heap.size w (w.alloc (.cells #[] 3)) := (Below.refl _ _).alloc (Nat.le_refl _) _
    have hm : RMid numTy w (w.alloc (.cells #[] 3)) (.slice (some ⟨w.heap.size, 0, none⟩) 0 0) [] := rMid_empty hb (own.new w _ _) (Nat.le_refl _)
    obtain ⟨a1, c1, w1, e1, m1, _⟩ := hm.app numTy_ok 31 (hr.below hb) (by simp; omega)
    rw [show ([] : List Int).length + L.length = L.length by simp] at e1 m1
    rw [List.nil_append] at m1
    have HF : Hid (ClPost numTy w L (.returned (.slice a1 L.length c1)) w1) := hid ⟨a1, c1, rfl, m1⟩
    have E1 := hid e1
    have hq : ∀ wx, Sem.run Try.prog (binOp .eql 31 (.slice (some ad) L.length cap) (.slice none 0 0)) wx = .ok (.bool false) wx := fun wx => by rfl
    clear e1 m1 hm hb hr hnone
    generalize L.length = n at *
    go_enter Try.func52, Try.ntmps52
    go_wp2_with (at_builtin; refine wpList_append_at E1.out (by with_reducible rfl) rfl _ _ rfl rfl rfl rfl ?_)
    go_ret
    exact HF.out
set_option maxHeartbeats 4000000 in
theorem cloneEn_any {w : World} {v : Value} {L : List Me} (h : RAt enTy w v L) (hL : L.length ≤ 1000000) :
    Calls Try.prog 43 #[v] w (ClPost enTy w L) := by
  have hr := h
  obtain ⟨ao, cap, rfl, hlc, hnone, _, _⟩ := h
  cases ao with
  | none =>
    have h0 : cap = 0 := hnone rfl
    subst h0
    have hl0 : L = [] := List.length_eq_zero_iff.1 (by omega)
    subst hl0
    have HF : Hid (ClPost enTy w [] (.returned (.slice none 0 0)) w) := hid ⟨none, 0, rfl, rMid_nil w⟩
    clear hr hlc hnone
    have hq : ∀ wx, Sem.run Try.prog (binOp .eql 26 (.slice none 0 0) (.slice none 0 0)) wx = .ok (.bool true) wx := fun wx => by rfl
    simp only [List.length_nil]
    go_enter Try.func43, Try.ntmps43
    go_wp2
    go_ret
    exact HF.out
  | some ad =>
    have hb : Below w.heap.size w (w.alloc (.cells #[] 49)) := (Below.refl _ _).alloc (Nat.le_refl _) _
    have hm : RMid enTy w (w.alloc (.cells #[] 49)) (.slice (some ⟨w.heap.size, 0, none⟩) 0 0) [] := rMid_empty hb (own.new w _ _) (Nat.le_refl _)
    obtain ⟨a1, c1, w1, e1, m1, _⟩ := hm.app enTy_ok 26 (hr.below hb) (by simp; omega)
    rw [show ([] : List Me).length + L.length = L.length by simp] at e1 m1
    rw [List.nil_append] at m1
    have HF : Hid (ClPost enTy w L (.returned (.slice a1 L.length c1)) w1) := hid ⟨a1, c1, rfl, m1⟩
    have E1 := hid e1
    have hq : ∀ wx, Sem.run Try.prog (binOp .eql 26 (.slice (some ad) L.length cap) (.slice none 0 0)) wx = .ok (.bool false) wx := fun wx => by rfl
    clear e1 m1 hm hb hr hnone
    generalize L.length = n at *
    go_enter Try.func43, Try.ntmps43
    go_wp2_with (at_builtin; refine wpList_append_at E1.out (by with_reducible rfl) rfl _ _ rfl rfl rfl rfl ?_)
    go_ret
    exact HF.out
end Go.Proofs.Ytiffdhihhggkhaa

/-
  LAYER 8 (rlog), THE PROGRAM's LOG: Term, has, Newer, own, Base.
-/
namespace Go.Proofs.Ytiffdhihhggkhaa
open Go.RowKit
set_option linter.unusedVariables false
set_option maxRecDepth 100000

set_option maxHeartbeats 4000000 in
theorem plTerm_any {w : World} {F : Nat → Prop} {r : Nat} {s : Rl} (i : Int) (h : plRep.Is w F r s) (hB : RlB s) (hi : I64' i) : Calls Try.prog 28 #[.pointer (some ⟨r, 0, none⟩), .int .i64 i] w (PlPost w (.tuple #[.int .i64 ((termL s i).getD 0), .bool (termL s i).isSome])) := by
  have HS := hid (plSteps_any i h hi)
  obtain ⟨va, vc, la, lc, hI, hc⟩ := pl_c h
  have HC : Hid (∀ wx, Below w.heap.size w wx → wx.cell? ⟨r, 1, none⟩ = some (.int .i64 s.bt) ∧ wx.cell? ⟨r, 4, none⟩ = some (.slice la s.ents.length lc)) := hid (fun wx hb => ⟨(hc wx hb).c1, (hc wx hb).c4⟩)
  have h2 := hB.len
  have hz := stp_zero hB hi
  have hin := stp_in hB hi
  have hr := stp_range s i
  have hwl : IntKind.u64.wrap (s.ents.length : Int) = s.ents.length := by rw [IntKind.wrap_u64]; omega
  by_cases e1 : i = s.bi
  · have ht : termL s i = some s.bt := by unfold termL; rw [if_pos e1]
    rw [ht]
    rw [hz.2 e1] at HS
    clear h hc hB hi h2 hz hin hr ht hI e1 hwl
    go_enter Try.func28, Try.ntmps28
    go_wp2_with (go_at_call 42; (with_reducible refine HS.out.mono ?_); rintro e w1 ⟨rfl, hb⟩; obtain ⟨c1, c4⟩ := HC.out w1 hb)
    go_ret2
    exact ⟨rfl, hb⟩
  have hne : stp s i ≠ 0 := fun e => e1 (hz.1 e)
  have q1 : (stp s i == 0) = false := beq_false_of_ne hne
  by_cases e3 : s.bi ≤ i ∧ i ≤ s.last
  · have e4 := hin.2 e3
    obtain ⟨k, hk⟩ : ∃ k : Nat, i = s.bi + 1 + k := ⟨(i - s.bi - 1).toNat, by omega⟩
    have hkl : k < s.ents.length := by unfold Rl.last at e3; omega
    obtain ⟨x, hx⟩ : ∃ x, s.ents[k]? = some x := ⟨_, List.getElem?_eq_getElem hkl⟩
    have ht : termL s i = some x.term := by rw [hk]; exact termL_at k hx
    rw [ht]
    have e5 : stp s i = (k : Int) + 1 := by omega
    rw [e5] at HS q1
    have hkI : (k : Int) < (s.ents.length : Int) := by omega
    have hkI0 : (0 : Int) ≤ (k : Int) := by omega
    have q2 : decide ((k : Int) + 1 ≤ (s.ents.length : Int)) = true := decide_eq_true (by omega)
    have q3 : (k : Int) + 1 ≤ (s.ents.length : Int) := by omega
    have hw2 : IntKind.u64.wrap (k : Int) = (k : Int) := by rw [IntKind.wrap_u64]; omega
    obtain ⟨sb, so, rfl, hce⟩ : ∃ sb so, la = some ⟨sb, so, none⟩ ∧ ∀ wx, Below w.heap.size w wx → wx.cell? ⟨sb, so + k * 4, none⟩ = some (.int .i64 x.idx) ∧ wx.cell? ⟨sb, so + k * 4 + 1, none⟩ = some (.int .i64 x.term) ∧ wx.cell? ⟨sb, so + k * 4 + 2, none⟩ = some (.int .i64 x.kind) ∧ wx.cell? ⟨sb, so + k * 4 + 3, none⟩ = some (.string x.dt) := by
      obtain ⟨a', cap', e, hat⟩ := en_at hI.ents.rAt
      cases e
      exact hat k x hx
    have HCE := hid hce
    clear h hc hB hi h2 hz hin hr ht hI e1 hne e3 e4 e5 hk hkl hx hce
    generalize s.ents.length = len at *
    go_enter Try.func28, Try.ntmps28
    go_wp2_with (go_at_call 42; (with_reducible refine HS.out.mono ?_); rintro e w1 ⟨rfl, hb⟩; obtain ⟨c1, c4⟩ := HC.out w1 hb; obtain ⟨d0, d1, d2, d3⟩ := HCE.out w1 hb)
    go_ret2
    exact ⟨rfl, hb⟩
  · have ht : termL s i = none := termL_none (by omega)
    rw [ht]
    have e4 : ¬ stp s i ≤ s.ents.length := fun e => e3 (hin.1.1 e)
    have q2 : decide (stp s i ≤ (s.ents.length : Int)) = false := decide_eq_false e4
    clear h hc hB hi h2 hz hin hr ht hI e1 hne e3
    generalize stp s i = st at *
    generalize s.ents.length = len at *
    have e6 : (len : Int) < st := by omega
    go_enter Try.func28, Try.ntmps28
    go_wp2_with (go_at_call 42; (with_reducible refine HS.out.mono ?_); rintro e w1 ⟨rfl, hb⟩; obtain ⟨c1, c4⟩ := HC.out w1 hb)
    go_ret2
    exact ⟨rfl, hb⟩
theorem plHas_any {w : World} {F : Nat → Prop} {r : Nat} {s : Rl} (i t : Int) (h : plRep.Is w F r s) (hB : RlB s) (hi : I64' i) (ht : I64' t) : Calls Try.prog 44 #[.pointer (some ⟨r, 0, none⟩), .int .i64 i, .int .i64 t] w (PlPost w (.bool (decide (termL s i = some t)))) := by
  have HT := hid (plTerm_any i h hB hi)
  cases hq : termL s i with
  | none =>
    rw [hq] at HT
    simp only [Option.isSome, Option.getD] at HT
    have hd : decide ((none : Option Int) = some t) = false := rfl
    rw [hd]
    clear h hB hi ht hq hd
    go_enter Try.func44, Try.ntmps44
    go_wp2_with (go_at_call 28; (with_reducible refine HT.out.mono ?_); rintro e w1 ⟨rfl, hb⟩)
    go_ret
    exact ⟨rfl, hb⟩
  | some u =>
    rw [hq] at HT
    simp only [Option.isSome, Option.getD] at HT
    by_cases e : u = t
    · have hd : decide ((some u : Option Int) = some t) = true := decide_eq_true (by rw [e])
      have q : (u == t) = true := by rw [e]; exact beq_self_eq_true _
      rw [hd]
      clear h hB hi ht hq hd e
      go_enter Try.func44, Try.ntmps44
      go_wp2_with (go_at_call 28; (with_reducible refine HT.out.mono ?_); rintro e w1 ⟨rfl, hb⟩)
      go_ret
      exact ⟨rfl, hb⟩
    · have hd : decide ((some u : Option Int) = some t) = false := decide_eq_false (fun h => e (Option.some.inj h))
      have q : (u == t) = false := beq_false_of_ne e
      rw [hd]
      clear h hB hi ht hq hd e
      go_enter Try.func44, Try.ntmps44
      go_wp2_with (go_at_call 28; (with_reducible refine HT.out.mono ?_); rintro e w1 ⟨rfl, hb⟩)
      go_ret
      exact ⟨rfl, hb⟩
set_option maxHeartbeats 4000000 in
theorem plNewer_any {w : World} {F : Nat → Prop} {r : Nat} {s : Rl} (i t : Int) (h : plRep.Is w F r s) (hB : RlB s) (hi : I64' i) (ht : I64' t) : Calls Try.prog 21 #[.pointer (some ⟨r, 0, none⟩), .int .i64 i, .int .i64 t] w (PlPost w (.bool (newerL s i t))) := by
  have HL := hid (fun wx (hb : Below w.heap.size w wx) => plLast_any (pl_later h hb) hB)
  have HT : Hid (∀ wx, Below w.heap.size w wx → ∃ ok, Calls Try.prog 28 #[.pointer (some ⟨r, 0, none⟩), .int .i64 s.last] wx (PlPost wx (.tuple #[.int .i64 (lastT s), .bool ok]))) := hid (fun wx hb => ⟨_, plTerm_any s.last (pl_later h hb) hB (last_i64 hB)⟩)
  have C1 := hid (HL.out w (Below.refl _ _))
  clear h hB hi ht
  unfold newerL
  generalize s.last = la at *
  generalize lastT s = lt at *
  by_cases e1 : lt < t
  · have d1 : decide (lt < t) = true := decide_eq_true e1
    rw [d1, Bool.true_or]
    go_enter Try.func21, Try.ntmps21
    go_wp2_with (first
      | (go_at_call 24; (with_reducible refine C1.out.mono ?_); rintro e w1 ⟨rfl, hb1⟩; obtain ⟨ok, hT⟩ := HT.out _ hb1; have C2 := hid hT; clear hT)
      | (go_at_call 28; (with_reducible refine C2.out.mono ?_); rintro e w2 ⟨rfl, hb2⟩))
    go_ret
    exact ⟨rfl, hb1.trans (hb2.mono hb1.size)⟩
  have e1' : t ≤ lt := by omega
  have d1 : decide (lt < t) = false := decide_eq_false e1
  rw [d1, Bool.false_or]
  by_cases e2 : t = lt
  · have q2 : (t == lt) = true := by rw [e2]; exact beq_self_eq_true _
    rw [decide_eq_true e2, Bool.true_and]
    have HE := hid e2
    clear e2
    obtain ⟨b, d3⟩ : ∃ b, decide (la ≤ i) = b := ⟨_, rfl⟩
    rw [d3]
    go_enter Try.func21, Try.ntmps21
    go_wp2_with (first
      | (go_at_call 24; (with_reducible refine C1.out.mono ?_); rintro e w1 ⟨rfl, hb1⟩; obtain ⟨ok, hT⟩ := HT.out _ hb1; have C2 := hid hT; clear hT)
      | (go_at_call 28; (with_reducible refine C2.out.mono ?_); rintro e w2 ⟨rfl, hb2⟩; have hb12 := hb1.trans (hb2.mono hb1.size); have C3 := hid (HL.out _ hb12))
      | (go_at_call 24; (with_reducible refine C3.out.mono ?_); rintro e w3 ⟨rfl, hb3⟩))
    go_ret
    exact ⟨rfl, hb12.trans (hb3.mono hb12.size)⟩
  · have q2 : (t == lt) = false := beq_false_of_ne e2
    rw [decide_eq_false e2, Bool.false_and]
    clear e2
    go_enter Try.func21, Try.ntmps21
    go_wp2_with (first
      | (go_at_call 24; (with_reducible refine C1.out.mono ?_); rintro e w1 ⟨rfl, hb1⟩; obtain ⟨ok, hT⟩ := HT.out _ hb1; have C2 := hid hT; clear hT)
      | (go_at_call 28; (with_reducible refine C2.out.mono ?_); rintro e w2 ⟨rfl, hb2⟩))
    go_ret
    exact ⟨rfl, hb1.trans (hb2.mono hb1.size)⟩
end Go.Proofs.Ytiffdhihhggkhaa

/-
  LAYER 8 (rlog), THE PROGRAM's LOG: own, Base.
-/
namespace Go.Proofs.Ytiffdhihhggkhaa
open Go.RowKit
set_option linter.unusedVariables false
set_option maxRecDepth 100000

def OwnPost (w : World) (bi bt : Int) (L : List Int) (bd : ByteArray) (e : Ending) (w' : World) : Prop := ∃ a c, e = .returned (.agg #[.int .i64 bi, .int .i64 bt, .slice a L.length c, .string bd]) ∧ RMid numTy w w' (.slice a L.length c) L
set_option maxHeartbeats 8000000 in
theorem plOwn_any {w : World} (bi bt : Int) (vv : Value) (L : List Int) (bd : ByteArray) (hv : RAt numTy w vv L) (hL : L.length ≤ 1000000) : Calls Try.prog 34 #[.agg #[.int .i64 bi, .int .i64 bt, vv, .string bd]] w (OwnPost w bi bt L bd) := by
  obtain ⟨va, vc, rfl, _⟩ := id hv
  have o1 := own.new w #[.int .i64 bi, .int .i64 bt, .slice va L.length vc, .string bd] 33
  have b1 : Below w.heap.size w (w.alloc (.cells #[.int .i64 bi, .int .i64 bt, .slice va L.length vc, .string bd] 33)) := (Below.refl _ _).alloc (Nat.le_refl _) _
  have hz1 : (w.alloc (.cells #[.int .i64 bi, .int .i64 bt, .slice va L.length vc, .string bd] 33)).heap.size = w.heap.size + 1 := by simp
  obtain ⟨w1, hw1⟩ : ∃ w1, w.alloc (.cells #[.int .i64 bi, .int .i64 bt, .slice va L.length vc, .string bd] 33) = w1 := ⟨_, rfl⟩
  have o2 := own.new w1 #[.int .i64 0, .int .i64 0, .slice none 0 0, .string ⟨#[]⟩] 33
  have b2 : Below w1.heap.size w1 (w1.alloc (.cells #[.int .i64 0, .int .i64 0, .slice none 0 0, .string ⟨#[]⟩] 33)) := (Below.refl _ _).alloc (Nat.le_refl _) _
  rw [hw1] at o1 b1 hz1
  obtain ⟨w2, hw2⟩ : ∃ w2, w1.alloc (.cells #[.int .i64 0, .int .i64 0, .slice none 0 0, .string ⟨#[]⟩] 33) = w2 := ⟨_, rfl⟩
  rw [hw2, hz1] at o2
  rw [hw2] at b2
  have o12 := o1.same (b2.block _ o1.lt)
  have hs2 : w.heap.size + 2 ≤ w2.heap.size := by have := o2.lt; omega
  have hb2 : Below w.heap.size w w2 := b1.trans (b2.mono (by omega))
  have HC := hid (cloneN_any (hv.below hb2) hL)
  have HK : Hid (∀ w3 v, RMid numTy w2 w3 v L → w3.cell? ⟨w.heap.size, 2, none⟩ = some (.slice va L.length vc) ∧ w3.frozen? ⟨w.heap.size, 2, none⟩ = false ∧
      (w3.setCell ⟨w.heap.size, 2, none⟩ v).cell? ⟨w.heap.size, 0, none⟩ = some (.int .i64 bi) ∧ (w3.setCell ⟨w.heap.size, 2, none⟩ v).cell? ⟨w.heap.size, 1, none⟩ = some (.int .i64 bt) ∧ (w3.setCell ⟨w.heap.size, 2, none⟩ v).cell? ⟨w.heap.size, 2, none⟩ = some v ∧ (w3.setCell ⟨w.heap.size, 2, none⟩ v).cell? ⟨w.heap.size, 3, none⟩ = some (.string bd) ∧
      Box4 (w3.setCell ⟨w.heap.size, 2, none⟩ v) (w.heap.size + 1) (.int .i64 0) (.int .i64 0) (.slice none 0 0) (.string ⟨#[]⟩) (.int .i64 bi) (.int .i64 bt) v (.string bd) ∧ Hid (RMid numTy w (st4 (w3.setCell ⟨w.heap.size, 2, none⟩ v) (w.heap.size + 1) (.int .i64 bi) (.int .i64 bt) v (.string bd)) v L)) := hid (fun w3 v hm => by
    have k1 := o12.same (hm.below.block _ o12.lt)
    have k2 := o2.same (hm.below.block _ o2.lt)
    have k3 := k1.set 2 v
    have k4 : own (w3.setCell ⟨w.heap.size, 2, none⟩ v) (w.heap.size + 1) #[.int .i64 0, .int .i64 0, .slice none 0 0, .string ⟨#[]⟩] 33 := k2.other (p := ⟨w.heap.size, 2, none⟩) (by show w.heap.size + 1 ≠ w.heap.size; omega) v
    refine ⟨(k1.cell 2).trans rfl, k1.frozen 2, (k3.cell 0).trans rfl, (k3.cell 1).trans rfl, (k3.cell 2).trans rfl, (k3.cell 3).trans rfl, box4_of k4 _ _ _ _, hid ?_⟩
    have hch : Chg (fun b => b = w.heap.size ∨ b = w.heap.size + 1) w3 (st4 (w3.setCell ⟨w.heap.size, 2, none⟩ v) (w.heap.size + 1) (.int .i64 bi) (.int .i64 bt) v (.string bd)) := ((((((Chg.setCell w3 ⟨w.heap.size, 2, none⟩ _).mono (fun b e => .inl e)).trans (Chg.setCell _ ⟨w.heap.size + 1, 0, none⟩ _) (fun b e => .inl (.inr e))).trans (Chg.setCell _ ⟨w.heap.size + 1, 1, none⟩ _) (fun b e => .inl (.inr e))).trans (Chg.setCell _ ⟨w.heap.size + 1, 2, none⟩ _) (fun b e => .inl (.inr e))).trans (Chg.setCell _ ⟨w.heap.size + 1, 3, none⟩ _) (fun b e => .inl (.inr e)))
    refine ⟨hm.row.same (fun b e => hch.block b (hm.row.lt b e) (fun k => by have := hm.new b e; omega)), fun b e => by have := hm.new b e; omega, ?_⟩
    exact (hb2.trans (hm.below.mono hb2.size)).trans (hch.below (by have := hm.below.size; omega) (fun b e => by omega)))
  clear o1 o2 o12 b1 b2 hb2 hv hs2 hz1
  subst hw2 hw1
  go_enter Try.func34, Try.ntmps34
  go_wp2_with (go_at_call 52; (with_reducible refine HC.out.mono ?_); rintro e w3 ⟨a, c, rfl, hm⟩; obtain ⟨k1, k2, k3, k4, k5, k6, ⟨m0, m1, m2, m3, f0, f1, f2, f3, e0, e1, e2, e3⟩, hfin⟩ := HK.out _ _ hm; clear hm)
  exact bodyPost_ret (v := .agg #[.int .i64 bi, .int .i64 bt, .slice a L.length c, .string bd]) (by simp [results, Try.results34, go_sem, e0, e1, e2, e3]) rfl ⟨a, c, rfl, hfin.out⟩
set_option maxHeartbeats 4000000 in
theorem plBase_any {w : World} {F : Nat → Prop} {r : Nat} {s : Rl} (h : plRep.Is w F r s) (hB : RlB s) : Calls Try.prog 27 #[.pointer (some ⟨r, 0, none⟩)] w (OwnPost w s.bi s.bt s.vot s.bd) := by
  obtain ⟨va, vc, la, lc, hI, hc⟩ := pl_c h
  have o2 := own.new w #[.int .i64 0, .int .i64 0, .slice none 0 0, .string ⟨#[]⟩] 33
  have b2 : Below w.heap.size w (w.alloc (.cells #[.int .i64 0, .int .i64 0, .slice none 0 0, .string ⟨#[]⟩] 33)) := (Below.refl _ _).alloc (Nat.le_refl _) _
  obtain ⟨c0, c1, c2, c3, c4⟩ := hc _ b2
  obtain ⟨w2, hw2⟩ : ∃ w2, w.alloc (.cells #[.int .i64 0, .int .i64 0, .slice none 0 0, .string ⟨#[]⟩] 33) = w2 := ⟨_, rfl⟩
  rw [hw2] at o2 b2 c0 c1 c2 c3
  have HO := hid (plOwn_any s.bi s.bt (.slice va s.vot.length vc) s.vot s.bd (hI.vot.below b2) (by have := hB.vl; omega))
  have HK : Hid (∀ w3 v, RMid numTy w2 w3 v s.vot → Box4 w3 w.heap.size (.int .i64 0) (.int .i64 0) (.slice none 0 0) (.string ⟨#[]⟩) (.int .i64 s.bi) (.int .i64 s.bt) v (.string s.bd) ∧ Hid (RMid numTy w (st4 w3 w.heap.size (.int .i64 s.bi) (.int .i64 s.bt) v (.string s.bd)) v s.vot)) := hid (fun w3 v hm => by
    have k2 := o2.same (hm.below.block _ o2.lt)
    refine ⟨box4_of k2 _ _ _ _, hid ?_⟩
    have hch : Chg (fun b => b = w.heap.size) w3 (st4 w3 w.heap.size (.int .i64 s.bi) (.int .i64 s.bt) v (.string s.bd)) := ((((Chg.setCell w3 ⟨w.heap.size, 0, none⟩ _).trans (Chg.setCell _ ⟨w.heap.size, 1, none⟩ _) (fun b e => .inl e)).trans (Chg.setCell _ ⟨w.heap.size, 2, none⟩ _) (fun b e => .inl e)).trans (Chg.setCell _ ⟨w.heap.size, 3, none⟩ _) (fun b e => .inl e))
    have hlt := o2.lt
    refine ⟨hm.row.same (fun b e => hch.block b (hm.row.lt b e) (fun k => by have := hm.new b e; omega)), fun b e => by have := hm.new b e; omega, ?_⟩
    exact (b2.trans (hm.below.mono b2.size)).trans (hch.below (by have := hm.below.size; omega) (fun b e => by omega)))
  clear o2 b2 hI hc c4 h hB
  subst hw2
  go_enter Try.func27, Try.ntmps27
  go_wp2_with (go_at_call 34; (with_reducible refine HO.out.mono ?_); rintro e w3 ⟨a, c, rfl, hm⟩; obtain ⟨⟨m0, m1, m2, m3, f0, f1, f2, f3, e0, e1, e2, e3⟩, hfin⟩ := HK.out _ _ hm; clear hm)
  exact bodyPost_ret (v := .agg #[.int .i64 s.bi, .int .i64 s.bt, .slice a s.vot.length c, .string s.bd]) (by simp [results, Try.results27, go_sem, e0, e1, e2, e3]) rfl ⟨a, c, rfl, hfin.out⟩
end Go.Proofs.Ytiffdhihhggkhaa

/-
  LAYER 8 (rlog), THE PROGRAM's LOG: its row turned; Add.
-/
namespace Go.Proofs.Ytiffdhihhggkhaa
open Go.RowKit
set_option linter.unusedVariables false
set_option maxRecDepth 100000

/-- The entries' row is another one now (in its own block, or a new one). -/
theorem pl_row {w w2 : World} {F : Nat → Prop} {r : Nat} {s : Rl} {vv lv : Value} (h : PlIs w F r s vv lv) {v : Value} {L : List Me} (hro : ROwn enTy w2 v L) (hc : Chg (fun b => lv.ownBlock = some b) w w2) (hat : ∀ b, v.ownBlock = some b → lv.ownBlock = some b ∨ w.heap.size ≤ b) :
    w2.cell? ⟨r, 4, none⟩ = some lv ∧ w2.frozen? ⟨r, 4, none⟩ = false ∧ Turn plRep F w (w2.setCell ⟨r, 4, none⟩ v) r { s with ents := L } := by
  have hbox : own w2 r #[.int .i64 s.bi, .int .i64 s.bt, vv, .string s.bd, lv] 68 := h.box.chg hc h.nl
  have hsz : (w2.setCell ⟨r, 4, none⟩ v).heap.size = w2.heap.size := setCell_size _ _ _
  have hs : ∀ b, b ≠ r → (w2.setCell ⟨r, 4, none⟩ v).heap[b]? = w2.heap[b]? := fun b hb => Below.heap_setCell _ _ _ _ hb
  have hz := hc.size
  have hr := h.box.lt
  have hvr : v.ownBlock ≠ some r := fun e => by
    rcases hat r e with k | k
    · exact h.nl k
    · omega
  refine ⟨(hbox.cell 4).trans rfl, hbox.frozen 4, fun b => F b ∨ (v.ownBlock = some b), ⟨vv, v, hbox.set 4 v, ?_, ?_, .inl h.fr, fun b e => .inl (h.fv b e), fun b e => .inr e, fun b e => ?_, h.nv, hvr, fun b e k => ?_⟩, ?_, fun b e => ?_⟩
  · refine (h.vot.same (fun b e hb => hc.block b hb (h.vl b e)) hz).same (fun b e _ => hs b (fun e2 => h.nv (by rw [e, e2]))) (by rw [hsz]; exact Nat.le_refl _)
  · exact hro.same (fun b e => hs b (fun e2 => hvr (by rw [← e2]; exact e)))
  · rw [hsz]
    rcases e with e | e
    · have := h.lt b e; omega
    · exact hro.lt b e
  · rcases hat b k with k | k
    · exact h.vl b e k
    · have := h.lt b (h.fv b e); omega
  · exact (hc.mono (fun b e => h.fl b e)).trans (Chg.setCell w2 ⟨r, 4, none⟩ v) (fun b e => .inl (by rw [e]; exact h.fr))
  · rcases e with e | e
    · exact .inl e
    · rcases hat b e with k | k
      · exact .inl (h.fl b k)
      · exact .inr k
/-- One entry put behind: its box has just been laid. -/
theorem pl_push {W : World} {F : Nat → Prop} {r : Nat} {s : Rl} {vv lv : Value} (h : PlIs W F r s vv lv) (hl : s.ents.length ≤ 100000) (x : Me) :
    ∃ a cap w2, (Builtin.append_ #[26, 26] 26 #[lv, .slice (some ⟨W.heap.size, 0, none⟩) 1 1]).run Try.prog (W.alloc (.cells #[.int .i64 x.idx, .int .i64 x.term, .int .i64 x.kind, .string x.dt] 49)).drew = .ok (.slice a (s.ents.length + 1) cap) w2 ∧
      w2.cell? ⟨r, 4, none⟩ = some lv ∧ w2.frozen? ⟨r, 4, none⟩ = false ∧ Turn plRep F W (w2.setCell ⟨r, 4, none⟩ (.slice a (s.ents.length + 1) cap)) r { s with ents := s.ents ++ [x] } := by
  have hb : Below W.heap.size W (W.alloc (.cells #[.int .i64 x.idx, .int .i64 x.term, .int .i64 x.kind, .string x.dt] 49)).drew := ((Below.refl _ _).alloc (Nat.le_refl _) _).drew
  have zd : (W.alloc (.cells #[.int .i64 x.idx, .int .i64 x.term, .int .i64 x.kind, .string x.dt] 49)).drew.heap.size = W.heap.size + 1 := by show (W.alloc _).heap.size = _; simp
  obtain ⟨a, cap, w2, e, hro, hg, hat⟩ := run_app enTy_ok (W.alloc (.cells #[.int .i64 x.idx, .int .i64 x.term, .int .i64 x.kind, .string x.dt] 49)).drew 26 lv _ s.ents [x] (h.ents.below hb) (rAt_box enTy_ok (show own (W.alloc (.cells #[.int .i64 x.idx, .int .i64 x.term, .int .i64 x.kind, .string x.dt] 49)).drew W.heap.size #[.int .i64 x.idx, .int .i64 x.term, .int .i64 x.kind, .string x.dt] 49 from own.new W _ _) rfl) (by simp; omega)
  have hc : Chg (fun b => lv.ownBlock = some b) W w2 := (Chg.of_below hb).trans (Chg.of_grown hg) (fun b e => .inl e)
  obtain ⟨h1, h2, h3⟩ := pl_row h hro hc (fun b e' => by
    rcases hat with k | k
    · exact .inl (by rw [← k]; exact e')
    · rw [k] at e'; have := Option.some.inj e'; exact .inr (by omega))
  exact ⟨a, cap, w2, e, h1, h2, h3⟩
/-- Behind Add's last statement but one: the answer's box is still to be filled. -/
structure PAddEnd (w : World) (F : Nat → Prop) (r : Nat) (s : Rl) (g8 ge : Nat) (x : Me) (W : World) : Prop where
  cells : W.cell? ⟨ge, 0, none⟩ = some (.int .i64 x.idx) ∧ W.cell? ⟨ge, 1, none⟩ = some (.int .i64 x.term) ∧ W.cell? ⟨ge, 2, none⟩ = some (.int .i64 x.kind) ∧ W.cell? ⟨ge, 3, none⟩ = some (.string x.dt)
  box : Box4 W g8 (.int .i64 0) (.int .i64 0) (.int .i64 0) (.string ⟨#[]⟩) (.int .i64 x.idx) (.int .i64 x.term) (.int .i64 x.kind) (.string x.dt)
  turn : Hid (Turn plRep F w (st4 W g8 (.int .i64 x.idx) (.int .i64 x.term) (.int .i64 x.kind) (.string x.dt)) r { s with ents := s.ents ++ [x] })
theorem pl_addEnd {w W w2 : World} {F : Nat → Prop} {r g8 ge : Nat} {s : Rl} {x : Me} (h0 : Below w.heap.size w W) (hF : ∀ b, F b → b < w.heap.size) (h8 : own W g8 #[.int .i64 0, .int .i64 0, .int .i64 0, .string ⟨#[]⟩] 49) (he : own W ge #[.int .i64 x.idx, .int .i64 x.term, .int .i64 x.kind, .string x.dt] 49) (n8 : w.heap.size ≤ g8) (ne : w.heap.size ≤ ge)
    (ht : Turn plRep F W w2 r { s with ents := s.ents ++ [x] }) : PAddEnd w F r s g8 ge x w2 := by
  obtain ⟨F', hi, hc, hF'⟩ := ht
  have o8 := h8.chg hc (fun e => by have := hF _ e; omega)
  have oe := he.chg hc (fun e => by have := hF _ e; omega)
  refine ⟨⟨(oe.cell 0).trans rfl, (oe.cell 1).trans rfl, (oe.cell 2).trans rfl, (oe.cell 3).trans rfl⟩, box4_of o8 _ _ _ _, hid ?_⟩
  have hcs : Chg (fun b => b = g8) w2 (st4 w2 g8 (.int .i64 x.idx) (.int .i64 x.term) (.int .i64 x.kind) (.string x.dt)) := ((((Chg.setCell w2 ⟨g8, 0, none⟩ _).trans (Chg.setCell _ ⟨g8, 1, none⟩ _) (fun b e => .inl e)).trans (Chg.setCell _ ⟨g8, 2, none⟩ _) (fun b e => .inl e)).trans (Chg.setCell _ ⟨g8, 3, none⟩ _) (fun b e => .inl e))
  have hnF : ¬ F' g8 := fun e => by
    rcases hF' _ e with k | k
    · have := hF _ k; omega
    · have := h8.lt; omega
  have hz := h0.size
  refine ⟨F', plRep.same hi hcs.size (fun b e => hcs.block b (plRep.lt hi b e) (fun e2 => hnF (by rw [← e2]; exact e))), ?_, fun b e => ?_⟩
  · exact ((Chg.of_below h0).trans hc (fun b e => .inl e)).trans hcs (fun b e => .inr (by rw [e]; exact n8))
  · rcases hF' b e with k | k
    · exact .inl k
    · exact .inr (by omega)
set_option maxHeartbeats 16000000 in
theorem plAdd_any {w : World} {F : Nat → Prop} {r : Nat} {s : Rl} (t k : Int) (d : ByteArray) (h : plRep.Is w F r s) (hB : RlB s) (ht : I64' t) (hk : I64' k) (hd : d.size ≤ 100000) (hl : s.ents.length < 5000) : Calls Try.prog 33 #[.pointer (some ⟨r, 0, none⟩), .int .i64 t, .int .i64 k, .string d] w fun e w' => e = .returned (entV (addE s t k d)) ∧ Turn plRep F w w' r (addL s t k d) := by
  have HL := hid (fun wx (hb : Below w.heap.size w wx) => plLast_any (pl_later h hb) hB)
  have h1 := hB.last
  have hwr : IntKind.i64.wrap (s.last + 1) = s.last + 1 := by rw [IntKind.wrap_i64]; omega
  have C1 := hid (HL.out (w.alloc (.cells #[.int .i64 0, .int .i64 0, .int .i64 0, .string ⟨#[]⟩] 49)) ((Below.refl _ _).alloc (Nat.le_refl _) _))
  have H := hid h
  clear h hB
  go_enter Try.func33, Try.ntmps33
  go_upto_region 2 with (go_at_call 24; (with_reducible refine C1.out.mono ?_); rintro e w1 ⟨rfl, hb⟩)
  have hz : (w.alloc (.cells #[.int .i64 0, .int .i64 0, .int .i64 0, .string ⟨#[]⟩] 49)).heap.size = w.heap.size + 1 := by simp
  have o8a : own w1 w.heap.size #[.int .i64 0, .int .i64 0, .int .i64 0, .string ⟨#[]⟩] 49 := (own.new w #[.int .i64 0, .int .i64 0, .int .i64 0, .string ⟨#[]⟩] 49).same (hb.block _ (by rw [hz]; omega))
  have hz1 : w.heap.size < w1.heap.size := by have := hb.size; omega
  have hb1 : Below w.heap.size w w1 := ((Below.refl _ _).alloc (Nat.le_refl _) _).trans (hb.mono (by rw [hz]; omega))
  have bW : Below w.heap.size w (w1.alloc (.cells #[.int .i64 (s.last + 1), .int .i64 t, .int .i64 k, .string d] 49)) := hb1.alloc hb1.size _
  have bW1 : Below w1.heap.size w1 (w1.alloc (.cells #[.int .i64 (s.last + 1), .int .i64 t, .int .i64 k, .string d] 49)) := (Below.refl _ _).alloc (Nat.le_refl _) _
  have oe := own.new w1 #[.int .i64 (s.last + 1), .int .i64 t, .int .i64 k, .string d] 49
  have o8 := o8a.same (bW1.block _ o8a.lt)
  clear o8a
  have hWI := pl_later H.out bW
  have HF := hid (plRep.lt H.out)
  clear bW1 hb hb1 C1 HL
  generalize (w1.alloc (.cells #[.int .i64 (s.last + 1), .int .i64 t, .int .i64 k, .string d] 49)) = W at *
  generalize w1.heap.size = ge at *
  obtain ⟨va, vc, la, lc, hI, hc⟩ := pl_c hWI
  obtain ⟨a, cap, w2, e2, f1, f2, hT⟩ := pl_push hI (by omega) (addE s t k d)
  have X : Hid (PAddEnd w F r s w.heap.size ge (addE s t k d) (w2.setCell ⟨r, 4, none⟩ (.slice a (s.ents.length + 1) cap))) := hid (pl_addEnd bW HF.out o8 oe (Nat.le_refl _) (by omega) hT)
  have hr := hI.box.lt
  have hcs : ∀ wx, Below W.heap.size W wx → wx.cell? ⟨r, 4, none⟩ = some (.slice la s.ents.length lc) ∧ wx.cell? ⟨ge, 0, none⟩ = some (.int .i64 (s.last + 1)) ∧ wx.cell? ⟨ge, 1, none⟩ = some (.int .i64 t) ∧ wx.cell? ⟨ge, 2, none⟩ = some (.int .i64 k) ∧ wx.cell? ⟨ge, 3, none⟩ = some (.string d) := fun wx hb =>
    have o := oe.same (hb.block _ oe.lt)
    ⟨(hc wx hb).c4, (o.cell 0).trans rfl, (o.cell 1).trans rfl, (o.cell 2).trans rfl, (o.cell 3).trans rfl⟩
  have B0 : Below W.heap.size W (W.alloc (.cells #[.int .i64 (s.last + 1), .int .i64 t, .int .i64 k, .string d] 49)) := Below.alloc (Below.refl _ _) (Nat.le_refl _) _
  obtain ⟨c1, d0, d1, d2, d3⟩ := hcs _ (Below.refl _ W)
  obtain ⟨c2, d4, d5, d6, d7⟩ := hcs _ B0
  dsimp only [addE] at e2
  have E2 := hid e2
  clear e2 hT hcs B0 hI hc hWI o8 oe H bW
  go_cut [] (fun wx => PAddEnd w F r s w.heap.size ge (addE s t k d) wx)
  case first =>
    go_wp2
    go_region_law (refine step_append_at E2.out (by with_reducible rfl) rfl _ _ rfl rfl rfl rfl ?_)
    all_goals
      go_wp2
      go_meet
      exact X.out
  case rest =>
    clear X f1 f2 E2
    generalize wc = W2 at *
    obtain ⟨⟨n0, n1, n2, n3⟩, ⟨k0, k1, k2, k3, f0, f1, f2, f3, e0, e1, e2, e3⟩, hT⟩ := hcut
    go_wp2
    exact bodyPost_ret (v := .agg #[.int .i64 (addE s t k d).idx, .int .i64 (addE s t k d).term, .int .i64 (addE s t k d).kind, .string (addE s t k d).dt]) (by simp [results, Try.results33, go_sem, e0, e1, e2, e3]) rfl ⟨rfl, hT.out⟩
end Go.Proofs.Ytiffdhihhggkhaa

/-
  LAYER 8 (rlog), THE PROGRAM's LOG: New.
-/
namespace Go.Proofs.Ytiffdhihhggkhaa
open Go.RowKit
set_option linter.unusedVariables false
set_option maxRecDepth 100000

/-- New's loop at its i-th round: the log holds A. -/
structure PwAt (w : World) (r : Nat) (bi bt : Int) (vot : List Int) (bd : ByteArray) (l : List Me) (i : Nat) (A : List Me) (wr : World) : Prop where
  is : ∃ F, plRep.Is wr F r ⟨bi, bt, vot, bd, A⟩ ∧ ∀ b, F b → w.heap.size ≤ b
  b : RlB ⟨bi, bt, vot, bd, A⟩
  below : Below w.heap.size w wr
  eq : A ++ nextE (bi + A.length) (l.drop i) = nextE bi l
def PwRel (w : World) (r : Nat) (bi bt : Int) (vot : List Int) (bd : ByteArray) (l : List Me) (v : Value) (wr : World) : Prop := ∃ i : Nat, i ≤ l.length ∧ v = .int .i64 (i : Int) ∧ Hid (∃ A, PwAt w r bi bt vot bd l i A wr)
theorem plB_part {bi bt : Int} {vot : List Int} {bd : ByteArray} {A C : List Me} (h : RlB ⟨bi, bt, vot, bd, A ++ C⟩) : RlB ⟨bi, bt, vot, bd, A⟩ :=
  ⟨⟨h.ok.pos, fun k x hx => h.ok.rises k x (by show (A ++ C)[k]? = some x; rw [List.getElem?_append_left (List.getElem?_eq_some_iff.1 hx).1]; exact hx)⟩, h.bi, by have := h.len; simp only [List.length_append] at this; show A.length ≤ 5000; omega, h.bt, h.vot, h.vl, h.bd, fun e he => h.ents e (by show e ∈ A ++ C; simp [he])⟩
theorem pnextE_stop {b : Int} {e : Me} {r : List Me} (h : b + 1 < e.idx) : nextE b (e :: r) = [] := by
  unfold nextE
  rw [if_pos h]
theorem pnextE_take {b : Int} {e : Me} {r : List Me} (h : e.idx = b + 1) : nextE b (e :: r) = e :: nextE (b + 1) r := by
  rw [show nextE b (e :: r) = if b + 1 < e.idx then [] else if e.idx = b + 1 then e :: nextE (b + 1) r else nextE b r from rfl, if_neg (by omega), if_pos h]
theorem pnextE_skip {b : Int} {e : Me} {r : List Me} (h : e.idx < b + 1) : nextE b (e :: r) = nextE b r := by
  rw [show nextE b (e :: r) = if b + 1 < e.idx then [] else if e.idx = b + 1 then e :: nextE (b + 1) r else nextE b r from rfl, if_neg (by omega), if_neg (by omega)]
theorem pw_next {w wr W' : World} {r : Nat} {bi bt : Int} {vot : List Int} {bd : ByteArray} {l : List Me} {i : Nat} {A : List Me} {x : Me} (hq : PwAt w r bi bt vot bd l i A wr) (hB : RlB (newL bi bt vot bd l)) (hd : l.drop i = x :: l.drop (i + 1)) (hx : x.idx = bi + A.length + 1)
    {F F' : Nat → Prop} (hF : ∀ b, F b → w.heap.size ≤ b) (h1 : plRep.Is W' F' r ⟨bi, bt, vot, bd, A ++ [x]⟩) (h2 : Chg F wr W') (h3 : ∀ b, F' b → F b ∨ wr.heap.size ≤ b) : PwAt w r bi bt vot bd l (i + 1) (A ++ [x]) W' := by
  have heq := hq.eq
  rw [hd, pnextE_take hx] at heq
  have heq2 : (A ++ [x]) ++ nextE (bi + ((A ++ [x]).length : Nat)) (l.drop (i + 1)) = nextE bi l := by
    rw [← heq, List.append_assoc, List.singleton_append, List.length_append, List.length_singleton]
    push_cast
    rw [Int.add_assoc]
  have hBx : RlB ⟨bi, bt, vot, bd, A ++ [x]⟩ := plB_part (C := nextE (bi + ((A ++ [x]).length : Nat)) (l.drop (i + 1))) (by rw [heq2]; exact hB)
  have hsz := hq.below.size
  refine ⟨⟨F', h1, fun b e => ?_⟩, hBx, ?_, heq2⟩
  · rcases h3 b e with k | k
    · exact hF b k
    · omega
  · exact hq.below.trans (h2.below hsz (fun b e => hF b e))
set_option maxHeartbeats 16000000 in
theorem plNew_any {w : World} (bi bt : Int) (vv : Value) (vot : List Int) (bd : ByteArray) (ev : Value) (l : List Me) (hv : RAt numTy w vv vot) (he : RAt enTy w ev l) (hB : RlB (newL bi bt vot bd l)) (hl : l.length ≤ 1000) : Calls Try.prog 13 #[baseV bi bt vv bd, ev] w (NewPost plRep w (newL bi bt vot bd l)) := by
  unfold baseV
  obtain ⟨va, vc, rfl, hAr⟩ := id hv
  clear hAr
  obtain ⟨ea, ec, rfl, hat⟩ := en_at he
  have HE := hid hat
  have hB0 : RlB ⟨bi, bt, vot, bd, []⟩ := plB_part (A := []) (C := nextE bi l) hB
  have b1 : Below w.heap.size w (w.alloc (.cells #[.int .i64 bi, .int .i64 bt, .slice va vot.length vc, .string bd] 33)) := (Below.refl _ _).alloc (Nat.le_refl _) _
  have hz1 : (w.alloc (.cells #[.int .i64 bi, .int .i64 bt, .slice va vot.length vc, .string bd] 33)).heap.size = w.heap.size + 1 := by simp
  have HO := hid (plOwn_any bi bt (.slice va vot.length vc) vot bd (hv.below b1) (by have := hB.vl; have h2 : vot.length ≤ 1000 := this; omega))
  have HStart : Hid (∀ w3 v, RMid numTy (w.alloc (.cells #[.int .i64 bi, .int .i64 bt, .slice va vot.length vc, .string bd] 33)) w3 v vot → PwAt w w3.heap.size bi bt vot bd l 0 [] (w3.alloc (.cells #[.int .i64 bi, .int .i64 bt, v, .string bd, .slice none 0 0] 68))) := hid (fun w3 v hm => by
    have b3 : Below w.heap.size w w3 := b1.trans (hm.below.mono b1.size)
    have b4 : Below w3.heap.size w3 (w3.alloc (.cells #[.int .i64 bi, .int .i64 bt, v, .string bd, .slice none 0 0] 68)) := (Below.refl _ _).alloc (Nat.le_refl _) _
    have hz4 : (w3.alloc (.cells #[.int .i64 bi, .int .i64 bt, v, .string bd, .slice none 0 0] 68)).heap.size = w3.heap.size + 1 := by simp
    have hz3 := b3.size
    refine ⟨⟨fun b => b = w3.heap.size ∨ v.ownBlock = some b, ⟨v, .slice none 0 0, own.new w3 _ _, (hm.later b4).row.rAt, rOwn_nil _, .inl rfl, fun b e => .inr e, fun b e => by simp [Value.ownBlock] at e, fun b e => ?_, fun e => ?_, fun e => by simp [Value.ownBlock] at e, fun b e k => by simp [Value.ownBlock] at k⟩, fun b e => ?_⟩, hB0, b3.alloc b3.size _, by simp [List.drop_zero]⟩
    · rcases e with e | e
      · omega
      · have := hm.row.lt b e; omega
    · have := hm.row.lt _ e; omega
    · rcases e with e | e
      · omega
      · have := hm.new b e; omega)
  obtain ⟨ln, hln⟩ : ∃ n, l.length = n := ⟨_, rfl⟩
  rw [hln]
  have HLn := hid hln
  have HBn := hid hB
  clear hB hB0 b1 hz1 hat he hv hln
  go_enter Try.func13, Try.ntmps13
  go_upto_region 2 with (go_at_call 34; (with_reducible refine HO.out.mono ?_); rintro e w3 ⟨a3, c3, rfl, hm⟩; have HS3 := hid (HStart.out _ _ hm); clear hm)
  generalize hr0 : w3.heap.size = r at *
  go_wp2
  go_loopw [15] (PwRel w r bi bt vot bd l) (fun i _ => ln - (intOf i).toNat)
  case atStart => exact ⟨0, Nat.zero_le _, rfl, hid ⟨[], HS3.out⟩⟩
  case round =>
    clear HS3 HStart HO
    obtain ⟨i, hi, rfl, hq⟩ := hrel
    obtain ⟨A, hq⟩ := hq.out
    have HQ := hid hq
    by_cases hin : i < ln
    · have hiI : (i : Int) < (ln : Int) := by omega
      obtain ⟨x, hx⟩ : ∃ x, l[i]? = some x := ⟨_, List.getElem?_eq_getElem (by rw [HLn.out]; exact hin)⟩
      obtain ⟨sb, so, rfl, hce⟩ := HE.out i x hx
      obtain ⟨d0, d1, d2, d3⟩ := hce wr hq.below
      obtain ⟨F, hIs, hFF⟩ := hq.is
      have hlast := hq.b.last
      have hdr : l.drop i = x :: l.drop (i + 1) := by
        rw [List.drop_eq_getElem_cons (by rw [HLn.out]; exact hin)]
        congr 1
        exact Option.some.inj ((List.getElem?_eq_getElem (by rw [HLn.out]; exact hin)).symm.trans hx)
      have HD := hid hdr
      have b7 : Below wr.heap.size wr (wr.alloc (.cells #[.int .i64 x.idx, .int .i64 x.term, .int .i64 x.kind, .string x.dt] 49)) := (Below.refl _ _).alloc (Nat.le_refl _) _
      have o7 := own.new wr #[.int .i64 x.idx, .int .i64 x.term, .int .i64 x.kind, .string x.dt] 49
      have HW := hid (fun w1 (hb : Below (wr.alloc (.cells #[.int .i64 x.idx, .int .i64 x.term, .int .i64 x.kind, .string x.dt] 49)).heap.size (wr.alloc (.cells #[.int .i64 x.idx, .int .i64 x.term, .int .i64 x.kind, .string x.dt] 49)) w1) => (show Below wr.heap.size wr w1 ∧ own w1 wr.heap.size #[.int .i64 x.idx, .int .i64 x.term, .int .i64 x.kind, .string x.dt] 49 from ⟨b7.trans (hb.mono b7.size), o7.same (hb.block _ o7.lt)⟩))
      have HLa : Hid ((⟨bi, bt, vot, bd, A⟩ : Rl).last = bi + A.length) := hid rfl
      have HL := hid (plLast_any (pl_later hIs b7) hq.b)
      have hw1 : IntKind.i64.wrap ((⟨bi, bt, vot, bd, A⟩ : Rl).last + 1) = (⟨bi, bt, vot, bd, A⟩ : Rl).last + 1 := by rw [IntKind.wrap_i64]; omega
      obtain ⟨la, hla⟩ : ∃ n, (⟨bi, bt, vot, bd, A⟩ : Rl).last = n := ⟨_, rfl⟩
      rw [hla] at HL hw1 HLa hlast
      have HIs := hid hIs
      clear hq hdr hx hce b7 o7 hla hIs
      by_cases e1 : la + 1 < x.idx
      · have HF : Hid (A = nextE bi l) := hid (by
          have h1 := HQ.out.eq
          rw [HD.out, pnextE_stop (by rw [← HLa.out]; exact e1), List.append_nil] at h1
          exact h1)
        go_wp2_with (go_at_call 24; (with_reducible refine HL.out.mono ?_); rintro e w1 ⟨rfl, hb⟩; obtain ⟨b8, o8⟩ := HW.out _ hb; have k0 := (o8.cell 0).trans rfl; have HB8 := hid b8; clear b8 o8)
        go_ret
        exact ⟨r, F, rfl, by have := pl_later HIs.out HB8.out; rw [HF.out] at this; exact this, hFF, HQ.out.below.trans (HB8.out.mono HQ.out.below.size)⟩
      · have e1' : x.idx ≤ la + 1 := by omega
        by_cases e2 : x.idx = la + 1
        · have q2 : (x.idx == la + 1) = true := by rw [e2]; exact beq_self_eq_true _
          have HXi : Hid (x.idx = bi + A.length + 1) := hid (by rw [e2, HLa.out])
          clear e2
          go_upto_region 8 with (go_at_call 24; (with_reducible refine HL.out.mono ?_); rintro e w1 ⟨rfl, hb⟩; obtain ⟨b8, o8⟩ := HW.out _ hb; have k0 := (o8.cell 0).trans rfl; have HB8 := hid b8; have HO8 := hid o8; clear b8 o8)
          have k1 := (HO8.out.cell 1).trans rfl
          have k2 := (HO8.out.cell 2).trans rfl
          have k3 := (HO8.out.cell 3).trans rfl
          obtain ⟨va1, vc1, la1, lc1, hI, hc⟩ := pl_c (pl_later HIs.out HB8.out)
          obtain ⟨a, cap, w2, e2, f1, f2, hT⟩ := pl_push hI (by have := HQ.out.b.len; show A.length ≤ 100000; have h5 : A.length ≤ 5000 := this; omega) x
          have B0 : Below w1.heap.size w1 (w1.alloc (.cells #[.int .i64 x.idx, .int .i64 x.term, .int .i64 x.kind, .string x.dt] 49)) := Below.alloc (Below.refl _ _) (Nat.le_refl _) _
          have c4 := (hc w1 (Below.refl _ _)).c4
          have c5 := (hc _ B0).c4
          dsimp only at e2 f1 f2 c4 c5
          have E2 := hid e2
          have HEnd : Hid (PwAt w r bi bt vot bd l (i + 1) (A ++ [x]) (w2.setCell ⟨r, 4, none⟩ (.slice a (A.length + 1) cap))) := hid (by
            obtain ⟨F', h1, h2, h3⟩ := hT
            have hz := HB8.out.size
            exact pw_next HQ.out HBn.out HD.out HXi.out hFF h1 ((Chg.of_below HB8.out).trans h2 (fun b e => .inl e)) (fun b e => by
              rcases h3 b e with k | k
              · exact .inl k
              · exact .inr (by omega)))
          have hr1 : r < w1.heap.size := hI.box.lt
          clear e2 hT hI hc B0 HL HW
          go_wp2
          go_region_law (refine step_append_at E2.out (by with_reducible rfl) rfl _ _ rfl rfl rfl rfl ?_)
          all_goals
            go_wp2
            go_roundw
            case rel => exact ⟨i + 1, by have := HLn.out; omega, by go_num, hid ⟨_, HEnd.out⟩⟩
            case measure => simp [intOf]; omega
        · have q2 : (x.idx == la + 1) = false := beq_false_of_ne e2
          have HN : Hid (∀ w1, Below wr.heap.size wr w1 → ∃ A, PwAt w r bi bt vot bd l (i + 1) A w1) := hid (fun w1 hb => ⟨A, ⟨F, pl_later HIs.out hb, hFF⟩, HQ.out.b, HQ.out.below.trans (hb.mono HQ.out.below.size), by
            have h1 := HQ.out.eq
            rw [HD.out, pnextE_skip (by rw [← HLa.out]; omega)] at h1
            exact h1⟩)
          clear e2
          go_wp2_with (go_at_call 24; (with_reducible refine HL.out.mono ?_); rintro e w1 ⟨rfl, hb⟩; obtain ⟨b8, o8⟩ := HW.out _ hb; have k0 := (o8.cell 0).trans rfl; have HB8 := hid b8; clear b8 o8)
          go_roundw
          case rel => exact ⟨i + 1, by have := HLn.out; omega, by go_num, hid (HN.out _ HB8.out)⟩
          case measure => simp [intOf]; omega
    · have hin2 : i = ln := by have := HLn.out; omega
      have hiI : (ln : Int) ≤ (i : Int) := by omega
      have HF : Hid (A = nextE bi l) := hid (by
        have h1 := HQ.out.eq
        rw [List.drop_eq_nil_of_le (by rw [HLn.out]; omega)] at h1
        simpa [nextE] using h1)
      clear hin2 hq
      obtain ⟨F, hIs, hFF⟩ := HQ.out.is
      go_wp2
      go_ret
      exact ⟨r, F, rfl, by have := hIs; rw [HF.out] at this; exact this, hFF, HQ.out.below⟩
end Go.Proofs.Ytiffdhihhggkhaa

/-
  LAYER 8 (rlog), THE PROGRAM's LOG: Slice.
-/
namespace Go.Proofs.Ytiffdhihhggkhaa
open Go.RowKit
set_option linter.unusedVariables false
set_option maxRecDepth 100000

theorem run_from_u {α : Type} {R : RowTy α} (o : R.Ok) (wx : World) (ao : Option Addr) (L cap i : Nat) (hi : i ≤ L) (hL : L ≤ cap) : (Instr.slice R.st (.slice ao L cap) (some (.int .u64 (i : Int))) none none).run Try.prog wx = .ok (R.from ao L cap i) wx := by
  obtain ⟨i0, hi0, _, hz1, _⟩ := o.parts
  have h := run_slice_l (P := Try.prog) wx R.st ao L cap (by rw [o.elem]; exact o.under) .u64 (i : Int) (by omega) (by omega)
  rw [h, o.elem]
  simp [RowTy.from, sizeOf, typeInfo, hi0, hz1, sliced, Result.andThen]
set_option maxHeartbeats 8000000 in
theorem plSlice_any {w : World} {F : Nat → Prop} {r : Nat} {s : Rl} (fr most : Int) (h : plRep.Is w F r s) (hB : RlB s) (hf : I64' fr) (hm : I64' most) : Calls Try.prog 19 #[.pointer (some ⟨r, 0, none⟩), .int .i64 fr, .int .i64 most] w fun e w' => ∃ vv, e = .returned vv ∧ RMid enTy w w' vv (sliceL s fr most) := by
  have HS := hid (plSteps_any fr h hf)
  obtain ⟨va, vc, la, lc, hI, hc⟩ := pl_c h
  have HC : Hid (∀ wx, Below w.heap.size w wx → wx.cell? ⟨r, 0, none⟩ = some (.int .i64 s.bi) ∧ wx.cell? ⟨r, 4, none⟩ = some (.slice la s.ents.length lc)) := hid (fun wx hb => ⟨(hc wx hb).c0, (hc wx hb).c4⟩)
  have h2 := hB.len
  have hin := stp_in hB hf
  have hwl : IntKind.u64.wrap (s.ents.length : Int) = s.ents.length := by rw [IntKind.wrap_u64]; omega
  have HNil : Hid (∀ wx, Below w.heap.size w wx → RMid enTy w wx (.slice none 0 0) []) := hid (fun wx hb => ⟨rOwn_nil wx, fun b e => by simp [Value.ownBlock] at e, hb⟩)
  by_cases e1 : fr ≤ s.bi
  · have hs : sliceL s fr most = [] := by unfold sliceL; rw [if_pos e1]
    rw [hs]
    have d1 : decide (fr ≤ s.bi) = true := decide_eq_true e1
    clear h hc hB hf hm h2 hin hI hs hwl
    generalize stp s fr = st at *
    go_enter Try.func19, Try.ntmps19
    go_wp2_with (go_at_call 42; (with_reducible refine HS.out.mono ?_); rintro e w1 ⟨rfl, hb⟩; obtain ⟨c0, c4⟩ := HC.out w1 hb)
    go_ret
    exact ⟨_, rfl, HNil.out _ hb⟩
  have d1 : decide (fr ≤ s.bi) = false := decide_eq_false e1
  by_cases e3 : s.last < fr
  · have hs : sliceL s fr most = [] := by
      unfold sliceL Rl.last at *
      rw [if_neg e1, List.drop_eq_nil_of_le (by omega), List.take_nil]
    rw [hs]
    have e4 : ¬ stp s fr ≤ s.ents.length := fun e => by have := hin.1.1 e; omega
    have e5 : (s.ents.length : Int) < stp s fr := by omega
    have d2 : decide ((s.ents.length : Int) < stp s fr) = true := decide_eq_true e5
    clear h hc hB hf hm h2 hin hI hs e3 e4
    generalize stp s fr = st at *
    generalize s.ents.length = len at *
    go_enter Try.func19, Try.ntmps19
    go_wp2_with (go_at_call 42; (with_reducible refine HS.out.mono ?_); rintro e w1 ⟨rfl, hb⟩; obtain ⟨c0, c4⟩ := HC.out w1 hb)
    go_ret
    exact ⟨_, rfl, HNil.out _ hb⟩
  have e4 := hin.2 (by omega)
  obtain ⟨k, hk⟩ : ∃ k : Nat, fr = s.bi + 1 + k := ⟨(fr - s.bi - 1).toNat, by omega⟩
  have hkl : k < s.ents.length := by unfold Rl.last at e3; omega
  have e5 : stp s fr = (k : Int) + 1 := by omega
  rw [e5] at HS
  have d2 : decide ((s.ents.length : Int) < (k : Int) + 1) = false := decide_eq_false (by omega)
  have hw2 : IntKind.u64.wrap (k : Int) = (k : Int) := by rw [IntKind.wrap_u64]; omega
  by_cases e6 : most < 1
  · have hs : sliceL s fr most = [] := by
      unfold sliceL
      rw [if_neg e1, show most.toNat = 0 by omega, List.take_zero]
    rw [hs]
    have d3 : decide (most < 1) = true := decide_eq_true e6
    clear h hc hB hf hm h2 hin hI hs e3 e4 e5 hk e1
    generalize s.ents.length = len at *
    go_enter Try.func19, Try.ntmps19
    go_wp2_with (go_at_call 42; (with_reducible refine HS.out.mono ?_); rintro e w1 ⟨rfl, hb⟩; obtain ⟨c0, c4⟩ := HC.out w1 hb)
    go_ret
    exact ⟨_, rfl, HNil.out _ hb⟩
  have d3 : decide (most < 1) = false := decide_eq_false e6
  have hs : sliceL s fr most = (s.ents.drop k).take (min most.toNat (s.ents.length - k)) := by
    unfold sliceL
    rw [if_neg e1, show (fr - s.bi - 1).toNat = k by omega]
    apply List.ext_getElem?
    intro j
    rw [List.getElem?_take, List.getElem?_take]
    by_cases h1 : j < most.toNat
    · by_cases h2 : j < s.ents.length - k
      · rw [if_pos h1, if_pos (by omega)]
      · rw [if_pos h1, if_neg (by omega), List.getElem?_eq_none (by rw [List.length_drop]; omega)]
    · rw [if_neg h1, if_neg (by omega)]
  rw [hs]
  obtain ⟨q, hq⟩ : ∃ q, min most.toNat (s.ents.length - k) = q := ⟨_, rfl⟩
  rw [hq]
  have hql : q ≤ s.ents.length - k := by omega
  obtain ⟨hd, hdo⟩ := hI.ents.rAt.drop enTy_ok (k := k) (by omega)
  obtain ⟨a0, c0', e0, g1, g2, g3, _⟩ := id hI.ents.rAt
  cases e0
  have hrun1 : ∀ wx, (Instr.slice 26 (.slice la s.ents.length lc) (some (.int .u64 (k : Int))) none none).run Try.prog wx = .ok (enTy.from la s.ents.length lc k) wx := fun wx => run_from_u enTy_ok wx la _ lc k (by omega) g1
  obtain ⟨a4, c5, hlv⟩ : ∃ a c, enTy.from la s.ents.length lc k = .slice a (s.ents.length - k) c := ⟨_, _, rfl⟩
  rw [hlv] at hd hrun1
  have hdl : (s.ents.drop k).length = s.ents.length - k := List.length_drop
  have hd2 := hd.take enTy_ok (k := q) (by omega)
  have hql2 : ((s.ents.drop k).take q).length = q := by rw [List.length_take]; omega
  obtain ⟨a6, c6, e6', g4, g5, _⟩ := id hd
  simp only [Value.slice.injEq] at e6'
  obtain ⟨rfl, -, rfl⟩ := e6'
  have hrun2 : ∀ wx, (Instr.slice 26 (.slice a4 (s.ents.length - k) c5) none (some (.int .i64 (q : Int))) none).run Try.prog wx = .ok (.slice a4 q c5) wx := fun wx => run_to enTy_ok wx a4 _ c5 q (by omega) g5
  have HCl : Hid (∀ wx, Below w.heap.size w wx → Calls Try.prog 43 #[.slice a4 q c5] wx fun e w' => ∃ a c, e = .returned (.slice a q c) ∧ RMid enTy w w' (.slice a q c) ((s.ents.drop k).take q)) := hid (fun wx hb => by
    have := cloneEn_any (hd2.below hb) (by omega)
    refine this.mono ?_
    rintro e w' ⟨a, c, rfl, hm⟩
    rw [hql2] at hm ⊢
    exact ⟨a, c, rfl, hm.row, fun b e => Nat.le_trans hb.size (hm.new b e), hb.trans (hm.below.mono hb.size)⟩)
  have hqI : (0 : Int) ≤ (q : Int) := by omega
  generalize (s.ents.drop k).take q = R at *
  have hmin : min most ((s.ents.length - k : Nat) : Int) = (q : Int) := by omega
  have e8 : (q : Int) ≤ ((s.ents.length - k : Nat) : Int) := by omega
  clear h hc hB hf hm h2 hin hI hs e3 e4 e5 hk e1 hq hql hd hdo hdl hd2 hql2 g1 g2 g3 g4 g5 hlv
  generalize s.ents.length - k = nl at *
  generalize s.ents.length = len at *
  go_enter Try.func19, Try.ntmps19
  go_wp2_with (first
    | (go_at_call 42; (with_reducible refine HS.out.mono ?_); rintro e w1 ⟨rfl, hb⟩; obtain ⟨c0, c4⟩ := HC.out w1 hb; have C2 := hid (HCl.out w1 hb))
    | (go_at_call 43; (with_reducible refine C2.out.mono ?_); rintro e w2 ⟨a, c, rfl, hm⟩))
  go_ret
  exact ⟨_, rfl, hm⟩
end Go.Proofs.Ytiffdhihhggkhaa

