/-
  LAYER 7 (msg): how a message lies in memory, and comes in.
-/
import Derived.Test.YtppjojjejabaeaaMsRefC
import Derived.Test.YtppjojjejabaeaaMq1
namespace Go.Proofs.Ytppjojjejabaeaa
open Go.ChangeShapes Go.WideShapes Go.ChangeAt Go.RowKit
open Go.WideMaps Go.WideElems Go.Deep Go.Joins
set_option linter.unusedVariables false
set_option maxRecDepth 100000

def meCells (e : Me) : List Value := [.int .i64 e.idx, .int .i64 e.term, .int .i64 e.kind, .string e.dt]
def enTy : RowTy Me := ⟨22, 49, 4, 40, meCells, .agg #[.int .i64 0, .int .i64 0, .int .i64 0, .string ⟨#[]⟩]⟩
theorem enTy_ok : enTy.Ok := ⟨fun _ => rfl, fun x u hu => by simp [enTy, meCells] at hu; rcases hu with rfl | rfl | rfl | rfl <;> rfl, by decide, Try.underlying22, by kernel_rfl, by kernel_rfl, rfl, by decide⟩
/-- A message as a value; its entries and its voters as the slices ev and vv. -/
def msV (m : Ms) (ev vv : Value) : Value := .agg #[.int .i64 m.kind, .int .i64 m.fr, .int .i64 m.to_, .int .i64 m.term, .int .i64 m.index, .int .i64 m.logTerm, .int .i64 m.commit, .bool m.ok, ev, .int .i64 m.bi, .int .i64 m.bt, vv, .string m.bd, .string m.dt]
structure MeIn (e : Me) : Prop where
  idx : I64' e.idx
  term : I64' e.term
  kind : I64' e.kind
  dt : e.dt.size ≤ maxLen
structure MsIn (m : Ms) : Prop where
  heads : ∀ n ∈ heads m, I64' n
  ents : ∀ e ∈ m.ents, MeIn e
  el : m.ents.length ≤ maxLen
  bi : I64' m.bi
  bt : I64' m.bt
  vot : ∀ n ∈ m.vot, I64' n
  vl : m.vot.length ≤ maxLen
  bd : m.bd.size ≤ maxLen
  dt : m.dt.size ≤ maxLen
/-- Its rows lie in the world. -/
structure MsAt (w : World) (m : Ms) (ev vv : Value) : Prop where
  ents : RAt enTy w ev m.ents
  vot : RAt numTy w vv m.vot
theorem MsAt.below {w w' : World} {m : Ms} {ev vv : Value} (h : MsAt w m ev vv) (hb : Below w.heap.size w w') : MsAt w' m ev vv := ⟨h.ents.below hb, h.vot.below hb⟩
theorem trodBool {H : Type} {enc : TypeId × Value → H} {W : World} {n : Nat} {v : Value} {y : DataW H × List MemPlace} (h : DataW.trod enc Try.prog W 0 (fun _ => true) true n 4 [v] = some y) : ∃ b : Bool, v = .bool b := by
  obtain ⟨b, hcs, _⟩ := DataW.trod_bool Try.underlying4 h
  simp at hcs
  exact ⟨b, hcs⟩
theorem ents_trod {H : Type} {enc : TypeId × Value → H} {W : World} {n : Nat} {v : Value} {y : DataW H × List MemPlace} (h : DataW.trod enc Try.prog W 0 (fun _ => true) true n 22 [v] = some y) :
    ∃ l : List Me, RAt enTy W v l ∧ (∀ e ∈ l, MeIn e) ∧ l.length ≤ maxLen :=
  structs_trod enTy_ok h Try.underlying49 (by kernel_rfl) (by kernel_rfl) rfl MeIn (fun c hc => by
    obtain ⟨_, _, t0⟩ := hc 0 _ rfl
    obtain ⟨_, _, t1⟩ := hc 1 _ rfl
    obtain ⟨_, _, t2⟩ := hc 2 _ rfl
    obtain ⟨_, _, t3⟩ := hc 3 _ rfl
    obtain ⟨k0, e0, b0⟩ := trodInt t0
    obtain ⟨k1, e1, b1⟩ := trodInt t1
    obtain ⟨k2, e2, b2⟩ := trodInt t2
    obtain ⟨k3, e3, b3⟩ := trodStr t3
    refine ⟨⟨k0, k1, k2, k3⟩, ⟨b0, b1, b2, b3⟩, fun j u hj => ?_⟩
    match j, hj with
    | 0, hj => rw [e0]; simpa [enTy, meCells] using hj
    | 1, hj => rw [e1]; simpa [enTy, meCells] using hj
    | 2, hj => rw [e2]; simpa [enTy, meCells] using hj
    | 3, hj => rw [e3]; simpa [enTy, meCells] using hj)
set_option maxHeartbeats 2000000 in
theorem msg_arg {H : Type} {enc : TypeId × Value → H} {W : World} {base : Nat} {v : Value} {d : DataW H} {p : List MemPlace} (ho : Value.okWide Try.prog W .any base 27 v)
    (h : DataW.Trod enc Try.prog W 0 (fun _ => true) true 27 v d p) : ∃ (m : Ms) (ev vv : Value), v = msV m ev vv ∧ MsAt W m ev vv ∧ MsIn m := by
  obtain ⟨cs, rfl, hsz⟩ := okWide_struct Try.underlying27 ho
  have hC : Try.prog.cellsOf 27 = 14 := by kernel_rfl
  obtain ⟨l⟩ := cs
  match l, hsz.trans hC with
  | [v0, v1, v2, v3, v4, v5, v6, v7, v8, v9, v10, v11, v12, v13], _ =>
    obtain ⟨fuel, hf⟩ := h
    obtain ⟨xs, n, _, hx, _, hlen, hg⟩ := DataW.trod_struct Try.underlying27 hf
    have hc1 : ∀ t ∈ [3, 9, 23, 4, 22], Try.prog.cellsOf t = 1 := by
      simp only [List.forall_mem_cons]
      exact ⟨by kernel_rfl, by kernel_rfl, by kernel_rfl, by kernel_rfl, by kernel_rfl, fun _ h => by cases h⟩
    have e1 := hc1 3 (by simp)
    have e2 := hc1 9 (by simp)
    have e3 := hc1 23 (by simp)
    have e4 := hc1 4 (by simp)
    have e5 := hc1 22 (by simp)
    have e6 : Try.prog.cellsOf 25 = 4 := by kernel_rfl
    match xs, hlen with
    | [y0, y1, y2, y3, y4, y5, y6, y7, y8, y9, y10], _ =>
      have t0 := hg 0 _ rfl
      have t1 := hg 1 _ rfl
      have t2 := hg 2 _ rfl
      have t3 := hg 3 _ rfl
      have t4 := hg 4 _ rfl
      have t5 := hg 5 _ rfl
      have t6 := hg 6 _ rfl
      have t7 := hg 7 _ rfl
      have t8 := hg 8 _ rfl
      have t9 := hg 9 _ rfl
      have t10 := hg 10 _ rfl
      simp [Value.cells, e1, e2, e4, e5, e6] at t0 t1 t2 t3 t4 t5 t6 t7 t8 t9 t10
      obtain ⟨zs, n2, _, _, _, hlen2, hg2⟩ := DataW.trod_struct Try.underlying25 t9
      match zs, hlen2 with
      | [z0, z1, z2, z3], _ =>
        have s0 := hg2 0 _ rfl
        have s1 := hg2 1 _ rfl
        have s2 := hg2 2 _ rfl
        have s3 := hg2 3 _ rfl
        simp [e1, e2, e3] at s0 s1 s2 s3
        obtain ⟨k0, rfl, b0⟩ := trodInt t0
        obtain ⟨k1, rfl, b1⟩ := trodInt t1
        obtain ⟨k2, rfl, b2⟩ := trodInt t2
        obtain ⟨k3, rfl, b3⟩ := trodInt t3
        obtain ⟨k4, rfl, b4⟩ := trodInt t4
        obtain ⟨k5, rfl, b5⟩ := trodInt t5
        obtain ⟨k6, rfl, b6⟩ := trodInt t6
        obtain ⟨b, rfl⟩ := trodBool t7
        obtain ⟨es, r8, i8, l8⟩ := ents_trod t8
        obtain ⟨k9, rfl, b9⟩ := trodInt s0
        obtain ⟨k10, rfl, b10⟩ := trodInt s1
        obtain ⟨vs, r11, i11, l11⟩ := trodNums s2
        obtain ⟨d12, rfl, b12⟩ := trodStr s3
        obtain ⟨d13, rfl, b13⟩ := trodStr t10
        refine ⟨⟨k0, k1, k2, k3, k4, k5, k6, b, es, k9, k10, vs, d12, d13⟩, v8, v11, rfl, ⟨r8, r11⟩, ⟨?_, i8, l8, b9, b10, i11, l11, b12, b13⟩⟩
        simp only [heads, List.forall_mem_cons]
        exact ⟨b0, b1, b2, b3, b4, b5, b6, fun _ h => by cases h⟩
end Go.Proofs.Ytppjojjejabaeaa
