/-
  MsPrA, MsRefR, MsPrB, MsPrC, MsPrD, MsPrE, MsRefP, MsRefQ, MsPrF, MsPrG, MsPrH, MsPrI, MsPrJ, in one text.
-/
import Derived.Test.YtiffdhihhggkhaaMq2
import Derived.Deep.RegionHeld3
import Derived.Deep.DeepCutAuto
import Derived.Deep.CutRange
import Derived.BigQuiet
import Derived.Test.YtiffdhihhggkhaaMq1
/-
  LAYER 7 (msg), THE PROGRAM: every, isNode, isNumber, rightData, rising.
-/
namespace Go.Proofs.Ytiffdhihhggkhaa
open Go.RowKit
set_option linter.unusedVariables false
set_option maxRecDepth 100000

def nodeB (n : Int) : Bool := decide (1 ≤ n) && decide (n ≤ 9)
/-- A function with a body, entered by its number. -/
def Enters (f : FuncId) : Prop := ∀ (args : Array Value) (w : World), (callFunc f args).run Try.prog w = .ok (.enter f args) w
theorem enters_of {f : FuncId} {fn : Func} {c : Code} (hf : Try.prog.funcs[f]? = some fn) (hname : (fn.name == "runtime.NumGoroutine") = false) (hb : fn.body = some c) : Enters f := fun args w => by
  have h1 : fn.name ≠ "runtime.NumGoroutine" := by simpa using hname
  simp [callFunc, hf, h1, hb]
end Go.Proofs.Ytiffdhihhggkhaa


/-
  LAYER 7 (msg), THE DOCUMENT's ANSWER: Right.
-/
namespace Go.Proofs.Ytiffdhihhggkhaa
open Go.RowKit
set_option linter.unusedVariables false
set_option maxRecDepth 100000

/-- The message's box. -/
def msCells (m : Ms) (ev vv : Value) : Array Value := #[.int .i64 m.kind, .int .i64 m.fr, .int .i64 m.to_, .int .i64 m.term, .int .i64 m.index, .int .i64 m.logTerm, .int .i64 m.commit, .bool m.ok, ev, .int .i64 m.bi, .int .i64 m.bt, vv, .string m.bd, .string m.dt]
/-- Where the cells of the k-th entry lie, as the walk spells them. -/
theorem ents_at {w : World} {v : Value} {L : List Me} (h : RAt enTy w v L) : ∃ a cap, v = .slice a L.length cap ∧ ∀ (k : Nat) x, L[k]? = some x → ∃ sb so, a = some ⟨sb, so, none⟩ ∧ ∀ wx, Below w.heap.size w wx → wx.cell? ⟨sb, so + k * 4, none⟩ = some (.int .i64 x.idx) ∧ wx.cell? ⟨sb, so + k * 4 + 1, none⟩ = some (.int .i64 x.term) ∧ wx.cell? ⟨sb, so + k * 4 + 2, none⟩ = some (.int .i64 x.kind) ∧ wx.cell? ⟨sb, so + k * 4 + 3, none⟩ = some (.string x.dt) := by
  obtain ⟨a, cap, rfl, _, _, hc⟩ := h.at enTy_ok
  refine ⟨a, cap, rfl, fun k x hk => ?_⟩
  obtain ⟨sb, so, e, hlt, hcs⟩ := hc k x hk
  exact ⟨sb, so, e, fun wx hb => ⟨(hb.cell (p := ⟨sb, _, none⟩) hlt).trans (hcs 0 _ rfl), (hb.cell (p := ⟨sb, _, none⟩) hlt).trans (hcs 1 _ rfl), (hb.cell (p := ⟨sb, _, none⟩) hlt).trans (hcs 2 _ rfl), (hb.cell (p := ⟨sb, _, none⟩) hlt).trans (hcs 3 _ rfl)⟩⟩
def RgRel (w : World) (L : List Me) (u : Value) (wr : World) : Prop := ∃ k : Nat, k ≤ L.length ∧ u = .int .i64 (k : Int) ∧ Below w.heap.size w wr ∧ Hid ((L.take k).all rightE = true)
def nodesB (m : Ms) : Bool := decide (1 ≤ m.fr) && decide (m.fr ≤ 9) && decide (1 ≤ m.to_) && decide (m.to_ ≤ 9)
def numsB (m : Ms) : Bool := inN m.term && inN m.index && inN m.logTerm && inN m.commit && inN m.bi && inN m.bt
def BoolPost' (w : World) (b : Bool) (e : Ending) (w' : World) : Prop := e = .returned (.bool b) ∧ Below w.heap.size w w'
end Go.Proofs.Ytiffdhihhggkhaa


/-
  LAYER 7 (msg), THE PROGRAM: rightEntry, every entry, rising.
-/
namespace Go.Proofs.Ytiffdhihhggkhaa
open Go.RowKit
set_option linter.unusedVariables false
set_option maxRecDepth 100000

end Go.Proofs.Ytiffdhihhggkhaa


/-
  LAYER 7 (msg), THE PROGRAM: rising, rightBase, Right.
-/
namespace Go.Proofs.Ytiffdhihhggkhaa
open Go.RowKit
set_option linter.unusedVariables false
set_option maxRecDepth 100000

/-- Rising from one to the next. -/
def risT (p : Int) : List Int → Bool
  | [] => true
  | x :: r => decide (p < x) && risT x r
def risA : List Int → Bool
  | [] => true
  | x :: r => risT x r
theorem risT_eq : ∀ (l : List Int) (p : Int), risingF p l = (l.all (fun x => decide (x ≤ 9)) && risT p l)
  | [], p => rfl
  | x :: r, p => by
    rw [risingF, risT_eq r x, List.all_cons, risT]
    cases decide (p < x) <;> cases decide (x ≤ 9) <;> simp
theorem risA_eq (l : List Int) : risingF 0 l = (l.all nodeB && risA l) := by
  cases l with
  | nil => rfl
  | cons x r =>
    rw [risT_eq]
    have key : ∀ (r : List Int) (p : Int), 1 ≤ p → risT p r = true → (r.all (fun x => decide (x ≤ 9)) = r.all nodeB) := by
      intro r
      induction r with
      | nil => intro p _ _; rfl
      | cons y s ih =>
        intro p hp h
        rw [risT] at h
        simp only [Bool.and_eq_true, decide_eq_true_eq] at h
        rw [List.all_cons, List.all_cons, ih y (by omega) h.2]
        congr 1
        unfold nodeB
        rw [decide_eq_true (by omega : 1 ≤ y), Bool.true_and]
    by_cases hx : 1 ≤ x
    · have e1 : risT 0 (x :: r) = risT x r := by rw [risT, decide_eq_true (by omega : 0 < x), Bool.true_and]
      rw [e1]
      show _ = ((x :: r).all nodeB && risT x r)
      cases h : risT x r with
      | false => simp
      | true =>
        rw [Bool.and_true, Bool.and_true, List.all_cons, List.all_cons, key r x hx h]
        congr 1
        unfold nodeB
        rw [decide_eq_true hx, Bool.true_and]
    · have e1 : risT 0 (x :: r) = false := by rw [risT, decide_eq_false (by omega : ¬ 0 < x), Bool.false_and]
      have e2 : nodeB x = false := by unfold nodeB; rw [decide_eq_false hx, Bool.false_and]
      have e3 : (x :: r).all nodeB = false := by rw [List.all_cons, e2, Bool.false_and]
      rw [e1, e3, Bool.and_false, Bool.false_and]
def RsRel (w : World) (xs : List Int) (u : Value) (wr : World) : Prop :=
  ∃ k : Nat, 1 ≤ k ∧ (k ≤ xs.length ∨ k = 1) ∧ u = .int .i64 (k : Int) ∧ Below w.heap.size w wr ∧ Hid (k ≤ xs.length → risA xs = risT (xs.getD (k - 1) 0) (xs.drop k))
end Go.Proofs.Ytiffdhihhggkhaa


/-
  LAYER 7 (msg), THE PROGRAM: rightBase, Right.
-/
namespace Go.Proofs.Ytiffdhihhggkhaa
open Go.RowKit
set_option linter.unusedVariables false
set_option maxRecDepth 100000

def rightB (m : Ms) : Bool := (inN m.bi && inN m.bt) && m.vot.all nodeB && risA m.vot && decide (m.bd.size ≤ 4000000)
end Go.Proofs.Ytiffdhihhggkhaa


/-
  LAYER 7 (msg), THE PROGRAM: Right.
-/
namespace Go.Proofs.Ytiffdhihhggkhaa
open Go.RowKit
set_option linter.unusedVariables false
set_option maxRecDepth 100000

theorem rightM_is (m : Ms) : rightM m = (decide (1 ≤ m.kind) && decide (m.kind ≤ 6) && (nodeB m.fr && nodeB m.to_) && (inN m.term && inN m.index && inN m.logTerm && inN m.commit) && decide (m.ents.length ≤ 8) && m.ents.all rightE && rightB m && decide (m.dt.size ≤ 4000000)) := by
  unfold rightM rightB nodeB
  rw [risA_eq]
  unfold nodeB
  ac_rfl
end Go.Proofs.Ytiffdhihhggkhaa


/-
  LAYER 7 (msg), THE DOCUMENT's ANSWER: bytes, Pack.
-/
namespace Go.Proofs.Ytiffdhihhggkhaa
open Go.RowKit
set_option linter.unusedVariables false
set_option maxRecDepth 100000

theorem txt_len {t : ByteArray} (h : t.size ≤ 4000000) : (txt t.data.toList).length ≤ 4000010 := by
  unfold txt
  rw [List.length_append]
  have := eI_len (n := (t.data.toList.length : Int)) ⟨by omega, by rw [str_len]; omega⟩
  unfold eI at this
  rw [str_len] at *
  omega
theorem eE_len {e : Me} (h : i64b e.idx ∧ i64b e.term ∧ i64b e.kind ∧ e.dt.size ≤ 4000000) : (eE e).length ≤ 4000040 := by
  unfold eE
  simp only [List.length_append]
  have h1 := eI_len h.1
  have h2 := eI_len h.2.1
  have h3 := eI_len h.2.2.1
  have h4 := txt_len h.2.2.2
  omega
theorem eEs_len : ∀ (l : List Me), (∀ e ∈ l, i64b e.idx ∧ i64b e.term ∧ i64b e.kind ∧ e.dt.size ≤ 4000000) → (eEs l).length ≤ 4000040 * l.length
  | [], _ => by simp [eEs]
  | x :: r, h => by
    have e : eEs (x :: r) = eE x ++ eEs r := by simp [eEs]
    rw [e, List.length_append, List.length_cons]
    have h1 := eE_len (h x (by simp))
    have h2 := eEs_len r (fun y hy => h y (by simp [hy]))
    omega
def BhRel (w : World) (L : List Int) (u3 u5 : Value) (wr : World) : Prop := ∃ k : Nat, k ≤ 7 ∧ u3 = .string (mk (encs (L.take k))) ∧ u5 = .int .i64 (k : Int) ∧ Below w.heap.size w wr
def BeRel (w : World) (A : List UInt8) (L : List Me) (u3 u6 : Value) (wr : World) : Prop := ∃ k : Nat, k ≤ L.length ∧ u3 = .string (mk (A ++ eEs (L.take k))) ∧ u6 = .int .i64 (k : Int) ∧ Below w.heap.size w wr
def StrPost (w : World) (l : List UInt8) (e : Ending) (w' : World) : Prop := e = .returned (.string (mk l)) ∧ Below w.heap.size w w'
end Go.Proofs.Ytiffdhihhggkhaa


/-
  LAYER 7 (msg), THE DOCUMENT's ANSWER: Pack.
-/
namespace Go.Proofs.Ytiffdhihhggkhaa
open Go.RowKit
set_option linter.unusedVariables false
set_option maxRecDepth 100000

/-- The box's cells. -/
structure MsBox (w : World) (g : Nat) (m : Ms) (ev vv : Value) : Prop where
  c0 : w.cell? ⟨g, 0, none⟩ = some (.int .i64 m.kind)
  c1 : w.cell? ⟨g, 1, none⟩ = some (.int .i64 m.fr)
  c2 : w.cell? ⟨g, 2, none⟩ = some (.int .i64 m.to_)
  c3 : w.cell? ⟨g, 3, none⟩ = some (.int .i64 m.term)
  c4 : w.cell? ⟨g, 4, none⟩ = some (.int .i64 m.index)
  c5 : w.cell? ⟨g, 5, none⟩ = some (.int .i64 m.logTerm)
  c6 : w.cell? ⟨g, 6, none⟩ = some (.int .i64 m.commit)
  c7 : w.cell? ⟨g, 7, none⟩ = some (.bool m.ok)
  c8 : w.cell? ⟨g, 8, none⟩ = some (ev)
  c9 : w.cell? ⟨g, 9, none⟩ = some (.int .i64 m.bi)
  c10 : w.cell? ⟨g, 10, none⟩ = some (.int .i64 m.bt)
  c11 : w.cell? ⟨g, 11, none⟩ = some (vv)
  c12 : w.cell? ⟨g, 12, none⟩ = some (.string m.bd)
  c13 : w.cell? ⟨g, 13, none⟩ = some (.string m.dt)
/-- What Pack says. -/
def packN (m : Ms) : List UInt8 × Int := if rightM m = true then (eM m, 0) else ([], 1)
def PackPost (w : World) (q : List UInt8 × Int) (e : Ending) (w' : World) : Prop := e = .returned (.tuple #[.string (mk q.1), .int .i64 q.2]) ∧ Below w.heap.size w w'
end Go.Proofs.Ytiffdhihhggkhaa


/-
  LAYER 7 (msg), THE PROGRAM: Voters, head.
-/
namespace Go.Proofs.Ytiffdhihhggkhaa
open Go.RowKit
set_option linter.unusedVariables false
set_option maxRecDepth 100000

/-! ### a block through the shapes of a world (one step each, for drawn regions) -/
theorem own.al {w : World} {b : Nat} {cs : Array Value} {T : TypeId} (o : Obj) (h : own w b cs T) : own (w.alloc o) b cs T := h.same (Below.heap_alloc _ _ _ h.lt)
theorem own.nw {w : World} {g : Nat} {cs : Array Value} {T : TypeId} (h : w.heap.size = g) : own (w.alloc (.cells cs T)) g cs T := by subst h; exact own.new w cs T
theorem own.dr {w : World} {b : Nat} {cs : Array Value} {T : TypeId} (h : own w b cs T) : own w.drew b cs T := h
theorem own.be {w w' : World} {b : Nat} {cs : Array Value} {T : TypeId} (hb : Below w.heap.size w w') (h : own w b cs T) : own w' b cs T := h.same (hb.block _ h.lt)
theorem intsAt_of {w : World} {v : Value} {xs : List Int} (h : RAt numTy w v xs) : IntsAt w w.heap.size v xs := by
  obtain ⟨a, cap, rfl, _, _, hc⟩ := h.at numTy_ok
  refine ⟨a, cap, rfl, fun hne => ?_⟩
  obtain ⟨x, hx⟩ : ∃ x, xs[0]? = some x := by
    cases xs with
    | nil => exact absurd rfl hne
    | cons y r => exact ⟨y, rfl⟩
  obtain ⟨sb, so, rfl, hlt, _⟩ := hc 0 x hx
  refine ⟨sb, so, rfl, hlt, fun j y hj => ?_⟩
  obtain ⟨sb', so', e, _, hcs⟩ := hc j y hj
  cases e
  have := hcs 0 _ rfl
  simpa [numTy] using this
end Go.Proofs.Ytiffdhihhggkhaa


/-
  LAYER 7 (msg), THE PROGRAM: head, base.
-/
namespace Go.Proofs.Ytiffdhihhggkhaa
open Go.RowKit
set_option linter.unusedVariables false
set_option maxRecDepth 100000

end Go.Proofs.Ytiffdhihhggkhaa


/-
  LAYER 7 (msg), THE PROGRAM: base.
-/
namespace Go.Proofs.Ytiffdhihhggkhaa
open Go.RowKit
set_option linter.unusedVariables false
set_option maxRecDepth 100000

/-- A base's bytes. -/
def eBs (m : Ms) : List UInt8 := encs [m.bi, m.bt] ++ eV m.vot ++ txt m.bd.data.toList
end Go.Proofs.Ytiffdhihhggkhaa


/-
  LAYER 7 (msg), THE PROGRAM: entries.
-/
namespace Go.Proofs.Ytiffdhihhggkhaa
open Go.RowKit
set_option linter.unusedVariables false
set_option maxRecDepth 100000

end Go.Proofs.Ytiffdhihhggkhaa


/-
  LAYER 7 (msg), THE PROGRAM: Pack.
-/
namespace Go.Proofs.Ytiffdhihhggkhaa
open Go.RowKit
set_option linter.unusedVariables false
set_option maxRecDepth 100000

theorem eM_parts (m : Ms) : eM m = encs (heads m) ++ eB m.ok ++ (eI m.ents.length ++ eEs m.ents) ++ eBs m ++ txt m.dt.data.toList := by
  unfold eM eBs
  simp [encs, eI, List.append_assoc]
end Go.Proofs.Ytiffdhihhggkhaa


