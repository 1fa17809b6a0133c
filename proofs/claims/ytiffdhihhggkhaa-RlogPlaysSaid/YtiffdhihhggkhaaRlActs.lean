/-
  LAYER 8 (rlog): acts as they come in; does, any act.
-/
import Derived.Test.YtiffdhihhggkhaaRlDoesA
import Derived.Test.YtiffdhihhggkhaaRlDoesC
import Derived.Test.YtiffdhihhggkhaaRlDoesR
import Derived.Test.YtiffdhihhggkhaaRlDoesM
namespace Go.Proofs.Ytiffdhihhggkhaa
open Go.ChangeShapes Go.WideShapes Go.ChangeAt Go.RowKit
open Go.WideMaps Go.WideElems Go.Deep Go.Joins
set_option linter.unusedVariables false
set_option maxRecDepth 100000

/-- An act: its parts are a slice (pa, L.length, pc) that holds L. -/
structure Ra where
  op : Int
  ix : Int
  tm : Int
  fx : Int
  pa : Option Addr
  pc : Nat
  L : List Pa
def aTy : RowTy Ra := ⟨23, 38, 5, 56, fun x => [.int .i64 x.op, .int .i64 x.ix, .int .i64 x.tm, .int .i64 x.fx, .slice x.pa x.L.length x.pc], .agg #[.int .i64 0, .int .i64 0, .int .i64 0, .int .i64 0, .slice none 0 0]⟩
theorem aTy_ok : aTy.Ok := ⟨fun _ => rfl, fun x u hu => by simp [aTy] at hu; rcases hu with rfl | rfl | rfl | rfl | rfl <;> rfl, by decide, Try.underlying23, by kernel_rfl, by kernel_rfl, rfl, by decide⟩
structure RaIn (W : World) (a : Ra) : Prop where
  op : I64' a.op
  ix : I64' a.ix
  tm : I64' a.tm
  fx : I64' a.fx
  row : RAt pTy W (.slice a.pa a.L.length a.pc) a.L
  in_ : ∀ p ∈ a.L, PaIn W p
  len : a.L.length ≤ maxLen
theorem racts_arg {H : Type} {enc : TypeId × Value → H} {W : World} {base : Nat} {v : Value} {d : DataW H} {p : List MemPlace} (ho : Value.okWide Try.prog W .any base 23 v)
    (h : DataW.Trod enc Try.prog W 0 (fun _ => true) true 23 v d p) : ∃ l : List Ra, RAt aTy W v l ∧ (∀ a ∈ l, RaIn W a) ∧ l.length ≤ maxLen :=
  structs_arg aTy_ok ho h Try.underlying38 (by kernel_rfl) (by kernel_rfl) rfl (RaIn W) (fun c hc => by
    obtain ⟨_, _, t0⟩ := hc 0 _ rfl
    obtain ⟨_, _, t1⟩ := hc 1 _ rfl
    obtain ⟨_, _, t2⟩ := hc 2 _ rfl
    obtain ⟨_, _, t3⟩ := hc 3 _ rfl
    obtain ⟨_, _, t4⟩ := hc 4 _ rfl
    obtain ⟨k0, e0, b0⟩ := trodInt t0
    obtain ⟨k1, e1, b1⟩ := trodInt t1
    obtain ⟨k2, e2, b2⟩ := trodInt t2
    obtain ⟨k3, e3, b3⟩ := trodInt t3
    obtain ⟨G, g1, g2, g3⟩ := structs_trod pTy_ok t4 Try.underlying63 (by kernel_rfl) (by kernel_rfl) rfl (PaIn W) (fun c hc => by
      obtain ⟨_, _, t0⟩ := hc 0 _ rfl
      obtain ⟨_, _, t1⟩ := hc 1 _ rfl
      obtain ⟨_, _, t2⟩ := hc 2 _ rfl
      obtain ⟨_, _, t3⟩ := hc 3 _ rfl
      obtain ⟨k0, e0, b0⟩ := trodInt t0
      obtain ⟨k1, e1, b1⟩ := trodInt t1
      obtain ⟨k2, e2, b2⟩ := trodStr t2
      obtain ⟨G, g1, g2, g3⟩ := trodNums t3
      obtain ⟨ga, gc, e3, _⟩ := id g1
      refine ⟨⟨k0, k1, k2, ga, gc, G⟩, ⟨b0, b1, b2, by rw [e3] at g1; exact g1, g2, g3⟩, fun j u hj => ?_⟩
      match j, hj with
      | 0, hj => rw [e0]; simpa [pTy] using hj
      | 1, hj => rw [e1]; simpa [pTy] using hj
      | 2, hj => rw [e2]; simpa [pTy] using hj
      | 3, hj => rw [e3]; simpa [pTy] using hj)
    obtain ⟨ga, gc, e4, _⟩ := id g1
    refine ⟨⟨k0, k1, k2, k3, ga, gc, G⟩, ⟨b0, b1, b2, b3, by rw [e4] at g1; exact g1, g2, g3⟩, fun j u hj => ?_⟩
    match j, hj with
    | 0, hj => rw [e0]; simpa [aTy] using hj
    | 1, hj => rw [e1]; simpa [aTy] using hj
    | 2, hj => rw [e2]; simpa [aTy] using hj
    | 3, hj => rw [e3]; simpa [aTy] using hj
    | 4, hj => rw [e4]; simpa [aTy] using hj)
/-- The k-th act's cells. -/
theorem ra_at {w : World} {v : Value} {l : List Ra} (h : RAt aTy w v l) : ∃ a cap, v = .slice a l.length cap ∧ ∀ (k : Nat) x, l[k]? = some x → ∃ sb so, a = some ⟨sb, so, none⟩ ∧ ∀ wx, Below w.heap.size w wx → wx.cell? ⟨sb, so + k * 5, none⟩ = some (.int .i64 x.op) ∧ wx.cell? ⟨sb, so + k * 5 + 1, none⟩ = some (.int .i64 x.ix) ∧ wx.cell? ⟨sb, so + k * 5 + 2, none⟩ = some (.int .i64 x.tm) ∧ wx.cell? ⟨sb, so + k * 5 + 3, none⟩ = some (.int .i64 x.fx) ∧ wx.cell? ⟨sb, so + k * 5 + 4, none⟩ = some (.slice x.pa x.L.length x.pc) := by
  obtain ⟨a, cap, rfl, _, _, hc⟩ := h.at aTy_ok
  refine ⟨a, cap, rfl, fun k x hk => ?_⟩
  obtain ⟨sb, so, e, hlt, hcs⟩ := hc k x hk
  exact ⟨sb, so, e, fun wx hb => ⟨(hb.cell (p := ⟨sb, so + k * 5, none⟩) hlt).trans (hcs 0 _ rfl), (hb.cell (p := ⟨sb, so + k * 5 + 1, none⟩) hlt).trans (hcs 1 _ rfl), (hb.cell (p := ⟨sb, so + k * 5 + 2, none⟩) hlt).trans (hcs 2 _ rfl), (hb.cell (p := ⟨sb, so + k * 5 + 3, none⟩) hlt).trans (hcs 3 _ rfl), (hb.cell (p := ⟨sb, so + k * 5 + 4, none⟩) hlt).trans (hcs 4 _ rfl)⟩⟩
theorem does_any {R : RlRep} (HP : RlProg R) {w0 w : World} {F1 F2 : Nat → Prop} {r1 r2 : Nat} {s : Rl} {op ix tm fx : Int} {pa : Option Addr} {pc : Nat} {l : List Pa} {n : Int} (h : DoIn R w0 w F1 F2 r1 r2 s op ix tm fx pa pc l n) : Calls Try.prog 16 #[.pointer (some ⟨r1, 0, none⟩), .pointer (some ⟨r2, 0, none⟩), .agg #[.int .i64 op, .int .i64 ix, .int .i64 tm, .int .i64 fx, .slice pa l.length pc]] w (DoPost R w0 w F1 F2 r1 r2 (n + 60)) := by
  have hr := pickZ_range op 7 (by omega)
  by_cases h01 : pickZ op 7 = 0 ∨ pickZ op 7 = 1
  · cases l with
    | nil => exact doesAdd0 h h01
    | cons p rest => exact doesAdd1 HP h h01
  by_cases h5 : pickZ op 7 = 5
  · exact doesCompact HP h h5
  by_cases h6 : pickZ op 7 = 6
  · exact doesRestore HP h h6
  exact doesMatch HP h rfl (by omega) (by omega)
end Go.Proofs.Ytiffdhihhggkhaa
