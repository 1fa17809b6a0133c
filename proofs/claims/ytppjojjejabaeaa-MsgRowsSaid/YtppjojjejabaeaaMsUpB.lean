/-
  LAYER 7 (msg), THE DOCUMENT's Unpack: its walk.
-/
import Derived.Test.YtppjojjejabaeaaMsUpA
import Derived.Deep.DeepCutAuto
import Derived.Deep.CutRange
namespace Go.Proofs.Ytppjojjejabaeaa
open Go.RowKit
set_option linter.unusedVariables false
set_option maxRecDepth 100000

def arrK (l : List UInt8) (k : Nat) : Array Value := (((rdIs k (l, true)).1 ++ List.replicate (7 - k) 0).map (Value.int .i64)).toArray
theorem arr_at (l : List UInt8) (k : Nat) (hk : k < 7) : (arrK l k)[k]? = some (.int .i64 0) := by
  unfold arrK
  rw [List.getElem?_toArray, List.getElem?_map, List.getElem?_append_right (by rw [rdIs_len]; exact Nat.le_refl _), rdIs_len, Nat.sub_self]
  rw [show 7 - k = (6 - k) + 1 by omega]
  rfl
theorem arr_step (l : List UInt8) (k : Nat) (hk : k < 7) : (arrK l k).setIfInBounds k (.int .i64 (rdI (rdIs k (l, true)).2).1) = arrK l (k + 1) := by
  unfold arrK
  apply Array.ext'
  rw [Array.toList_setIfInBounds, List.toList_toArray, List.toList_toArray, rdIs_succ]
  have hl := rdIs_len k (l, true)
  rw [List.map_append, List.set_append, if_neg (by rw [List.length_map, hl]; omega), List.length_map, hl, Nat.sub_self, show 7 - k = (6 - k) + 1 by omega, List.replicate_succ, List.map_cons, List.set_cons_zero]
  simp only [List.map_append, List.map_cons, List.append_assoc, List.singleton_append, show 7 - (k + 1) = 6 - k by omega]
structure UpB (w wr : World) (s : RS) (arr : Array Value) : Prop where
  res : own wr w.heap.size (msCells zMs zV zV) 27
  rdr : own wr (w.heap.size + 1) (rdCells s) 87
  arr : own wr (w.heap.size + 2) arr 88
  below : Below w.heap.size w wr
  short : s.1.length ≤ maxLen
def Up1 (w : World) (l : List UInt8) (u : Value) (wr : World) : Prop := ∃ k : Nat, k ≤ 7 ∧ u = .int .i64 (k : Int) ∧ UpB w wr (rdIs k (l, true)).2 (arrK l k)
/-- What Unpack leaves. -/
def UnPost (w : World) (q : Option Ms) (e : Ending) (w' : World) : Prop :=
  Below w.heap.size w w' ∧ match q with
  | none => e = .returned (.tuple #[msV zMs zV zV, .int .i64 8])
  | some m => ∃ ev vv, e = .returned (.tuple #[msV m ev vv, .int .i64 0]) ∧ MsAt w' m ev vv
/-- A whole message stored, cell by cell. -/
abbrev st14 (w : World) (b : Nat) (u0 u1 u2 u3 u4 u5 u6 u7 u8 u9 u10 u11 u12 u13 : Value) : World :=
  (((((((((((((w.setCell ⟨b, 0, none⟩ u0).setCell ⟨b, 1, none⟩ u1).setCell ⟨b, 2, none⟩ u2).setCell ⟨b, 3, none⟩ u3).setCell ⟨b, 4, none⟩ u4).setCell ⟨b, 5, none⟩ u5).setCell ⟨b, 6, none⟩ u6).setCell ⟨b, 7, none⟩ u7).setCell ⟨b, 8, none⟩ u8).setCell ⟨b, 9, none⟩ u9).setCell ⟨b, 10, none⟩ u10).setCell ⟨b, 11, none⟩ u11).setCell ⟨b, 12, none⟩ u12).setCell ⟨b, 13, none⟩ u13
theorem st14_own {w : World} {b : Nat} {T : TypeId} {a0 a1 a2 a3 a4 a5 a6 a7 a8 a9 a10 a11 a12 a13 : Value} (h : own w b #[a0, a1, a2, a3, a4, a5, a6, a7, a8, a9, a10, a11, a12, a13] T) (u0 u1 u2 u3 u4 u5 u6 u7 u8 u9 u10 u11 u12 u13 : Value) :
    own (st14 w b u0 u1 u2 u3 u4 u5 u6 u7 u8 u9 u10 u11 u12 u13) b #[u0, u1, u2, u3, u4, u5, u6, u7, u8, u9, u10, u11, u12, u13] T := by
  have h0 : own (w.setCell ⟨b, 0, none⟩ u0) b #[u0, a1, a2, a3, a4, a5, a6, a7, a8, a9, a10, a11, a12, a13] T := h.set 0 u0
  have h1 : own ((w.setCell ⟨b, 0, none⟩ u0).setCell ⟨b, 1, none⟩ u1) b #[u0, u1, a2, a3, a4, a5, a6, a7, a8, a9, a10, a11, a12, a13] T := h0.set 1 u1
  have h2 : own (((w.setCell ⟨b, 0, none⟩ u0).setCell ⟨b, 1, none⟩ u1).setCell ⟨b, 2, none⟩ u2) b #[u0, u1, u2, a3, a4, a5, a6, a7, a8, a9, a10, a11, a12, a13] T := h1.set 2 u2
  have h3 : own ((((w.setCell ⟨b, 0, none⟩ u0).setCell ⟨b, 1, none⟩ u1).setCell ⟨b, 2, none⟩ u2).setCell ⟨b, 3, none⟩ u3) b #[u0, u1, u2, u3, a4, a5, a6, a7, a8, a9, a10, a11, a12, a13] T := h2.set 3 u3
  have h4 : own (((((w.setCell ⟨b, 0, none⟩ u0).setCell ⟨b, 1, none⟩ u1).setCell ⟨b, 2, none⟩ u2).setCell ⟨b, 3, none⟩ u3).setCell ⟨b, 4, none⟩ u4) b #[u0, u1, u2, u3, u4, a5, a6, a7, a8, a9, a10, a11, a12, a13] T := h3.set 4 u4
  have h5 : own ((((((w.setCell ⟨b, 0, none⟩ u0).setCell ⟨b, 1, none⟩ u1).setCell ⟨b, 2, none⟩ u2).setCell ⟨b, 3, none⟩ u3).setCell ⟨b, 4, none⟩ u4).setCell ⟨b, 5, none⟩ u5) b #[u0, u1, u2, u3, u4, u5, a6, a7, a8, a9, a10, a11, a12, a13] T := h4.set 5 u5
  have h6 : own (((((((w.setCell ⟨b, 0, none⟩ u0).setCell ⟨b, 1, none⟩ u1).setCell ⟨b, 2, none⟩ u2).setCell ⟨b, 3, none⟩ u3).setCell ⟨b, 4, none⟩ u4).setCell ⟨b, 5, none⟩ u5).setCell ⟨b, 6, none⟩ u6) b #[u0, u1, u2, u3, u4, u5, u6, a7, a8, a9, a10, a11, a12, a13] T := h5.set 6 u6
  have h7 : own ((((((((w.setCell ⟨b, 0, none⟩ u0).setCell ⟨b, 1, none⟩ u1).setCell ⟨b, 2, none⟩ u2).setCell ⟨b, 3, none⟩ u3).setCell ⟨b, 4, none⟩ u4).setCell ⟨b, 5, none⟩ u5).setCell ⟨b, 6, none⟩ u6).setCell ⟨b, 7, none⟩ u7) b #[u0, u1, u2, u3, u4, u5, u6, u7, a8, a9, a10, a11, a12, a13] T := h6.set 7 u7
  have h8 : own (((((((((w.setCell ⟨b, 0, none⟩ u0).setCell ⟨b, 1, none⟩ u1).setCell ⟨b, 2, none⟩ u2).setCell ⟨b, 3, none⟩ u3).setCell ⟨b, 4, none⟩ u4).setCell ⟨b, 5, none⟩ u5).setCell ⟨b, 6, none⟩ u6).setCell ⟨b, 7, none⟩ u7).setCell ⟨b, 8, none⟩ u8) b #[u0, u1, u2, u3, u4, u5, u6, u7, u8, a9, a10, a11, a12, a13] T := h7.set 8 u8
  have h9 : own ((((((((((w.setCell ⟨b, 0, none⟩ u0).setCell ⟨b, 1, none⟩ u1).setCell ⟨b, 2, none⟩ u2).setCell ⟨b, 3, none⟩ u3).setCell ⟨b, 4, none⟩ u4).setCell ⟨b, 5, none⟩ u5).setCell ⟨b, 6, none⟩ u6).setCell ⟨b, 7, none⟩ u7).setCell ⟨b, 8, none⟩ u8).setCell ⟨b, 9, none⟩ u9) b #[u0, u1, u2, u3, u4, u5, u6, u7, u8, u9, a10, a11, a12, a13] T := h8.set 9 u9
  have h10 : own (((((((((((w.setCell ⟨b, 0, none⟩ u0).setCell ⟨b, 1, none⟩ u1).setCell ⟨b, 2, none⟩ u2).setCell ⟨b, 3, none⟩ u3).setCell ⟨b, 4, none⟩ u4).setCell ⟨b, 5, none⟩ u5).setCell ⟨b, 6, none⟩ u6).setCell ⟨b, 7, none⟩ u7).setCell ⟨b, 8, none⟩ u8).setCell ⟨b, 9, none⟩ u9).setCell ⟨b, 10, none⟩ u10) b #[u0, u1, u2, u3, u4, u5, u6, u7, u8, u9, u10, a11, a12, a13] T := h9.set 10 u10
  have h11 : own ((((((((((((w.setCell ⟨b, 0, none⟩ u0).setCell ⟨b, 1, none⟩ u1).setCell ⟨b, 2, none⟩ u2).setCell ⟨b, 3, none⟩ u3).setCell ⟨b, 4, none⟩ u4).setCell ⟨b, 5, none⟩ u5).setCell ⟨b, 6, none⟩ u6).setCell ⟨b, 7, none⟩ u7).setCell ⟨b, 8, none⟩ u8).setCell ⟨b, 9, none⟩ u9).setCell ⟨b, 10, none⟩ u10).setCell ⟨b, 11, none⟩ u11) b #[u0, u1, u2, u3, u4, u5, u6, u7, u8, u9, u10, u11, a12, a13] T := h10.set 11 u11
  have h12 : own (((((((((((((w.setCell ⟨b, 0, none⟩ u0).setCell ⟨b, 1, none⟩ u1).setCell ⟨b, 2, none⟩ u2).setCell ⟨b, 3, none⟩ u3).setCell ⟨b, 4, none⟩ u4).setCell ⟨b, 5, none⟩ u5).setCell ⟨b, 6, none⟩ u6).setCell ⟨b, 7, none⟩ u7).setCell ⟨b, 8, none⟩ u8).setCell ⟨b, 9, none⟩ u9).setCell ⟨b, 10, none⟩ u10).setCell ⟨b, 11, none⟩ u11).setCell ⟨b, 12, none⟩ u12) b #[u0, u1, u2, u3, u4, u5, u6, u7, u8, u9, u10, u11, u12, a13] T := h11.set 12 u12
  have h13 : own ((((((((((((((w.setCell ⟨b, 0, none⟩ u0).setCell ⟨b, 1, none⟩ u1).setCell ⟨b, 2, none⟩ u2).setCell ⟨b, 3, none⟩ u3).setCell ⟨b, 4, none⟩ u4).setCell ⟨b, 5, none⟩ u5).setCell ⟨b, 6, none⟩ u6).setCell ⟨b, 7, none⟩ u7).setCell ⟨b, 8, none⟩ u8).setCell ⟨b, 9, none⟩ u9).setCell ⟨b, 10, none⟩ u10).setCell ⟨b, 11, none⟩ u11).setCell ⟨b, 12, none⟩ u12).setCell ⟨b, 13, none⟩ u13) b #[u0, u1, u2, u3, u4, u5, u6, u7, u8, u9, u10, u11, u12, u13] T := h12.set 13 u13
  exact h13
/-- A message's box, known, and stored anew. -/
structure Box14 (w2 : World) (b : Nat) (a0 a1 a2 a3 a4 a5 a6 a7 a8 a9 a10 a11 a12 a13 u0 u1 u2 u3 u4 u5 u6 u7 u8 u9 u10 u11 u12 u13 : Value) : Prop where
  k0 : w2.cell? ⟨b, 0, none⟩ = some a0
  k1 : w2.cell? ⟨b, 1, none⟩ = some a1
  k2 : w2.cell? ⟨b, 2, none⟩ = some a2
  k3 : w2.cell? ⟨b, 3, none⟩ = some a3
  k4 : w2.cell? ⟨b, 4, none⟩ = some a4
  k5 : w2.cell? ⟨b, 5, none⟩ = some a5
  k6 : w2.cell? ⟨b, 6, none⟩ = some a6
  k7 : w2.cell? ⟨b, 7, none⟩ = some a7
  k8 : w2.cell? ⟨b, 8, none⟩ = some a8
  k9 : w2.cell? ⟨b, 9, none⟩ = some a9
  k10 : w2.cell? ⟨b, 10, none⟩ = some a10
  k11 : w2.cell? ⟨b, 11, none⟩ = some a11
  k12 : w2.cell? ⟨b, 12, none⟩ = some a12
  k13 : w2.cell? ⟨b, 13, none⟩ = some a13
  f0 : w2.frozen? ⟨b, 0, none⟩ = false
  f1 : w2.frozen? ⟨b, 1, none⟩ = false
  f2 : w2.frozen? ⟨b, 2, none⟩ = false
  f3 : w2.frozen? ⟨b, 3, none⟩ = false
  f4 : w2.frozen? ⟨b, 4, none⟩ = false
  f5 : w2.frozen? ⟨b, 5, none⟩ = false
  f6 : w2.frozen? ⟨b, 6, none⟩ = false
  f7 : w2.frozen? ⟨b, 7, none⟩ = false
  f8 : w2.frozen? ⟨b, 8, none⟩ = false
  f9 : w2.frozen? ⟨b, 9, none⟩ = false
  f10 : w2.frozen? ⟨b, 10, none⟩ = false
  f11 : w2.frozen? ⟨b, 11, none⟩ = false
  f12 : w2.frozen? ⟨b, 12, none⟩ = false
  f13 : w2.frozen? ⟨b, 13, none⟩ = false
  e0 : (st14 w2 b u0 u1 u2 u3 u4 u5 u6 u7 u8 u9 u10 u11 u12 u13).cell? ⟨b, 0, none⟩ = some u0
  e1 : (st14 w2 b u0 u1 u2 u3 u4 u5 u6 u7 u8 u9 u10 u11 u12 u13).cell? ⟨b, 1, none⟩ = some u1
  e2 : (st14 w2 b u0 u1 u2 u3 u4 u5 u6 u7 u8 u9 u10 u11 u12 u13).cell? ⟨b, 2, none⟩ = some u2
  e3 : (st14 w2 b u0 u1 u2 u3 u4 u5 u6 u7 u8 u9 u10 u11 u12 u13).cell? ⟨b, 3, none⟩ = some u3
  e4 : (st14 w2 b u0 u1 u2 u3 u4 u5 u6 u7 u8 u9 u10 u11 u12 u13).cell? ⟨b, 4, none⟩ = some u4
  e5 : (st14 w2 b u0 u1 u2 u3 u4 u5 u6 u7 u8 u9 u10 u11 u12 u13).cell? ⟨b, 5, none⟩ = some u5
  e6 : (st14 w2 b u0 u1 u2 u3 u4 u5 u6 u7 u8 u9 u10 u11 u12 u13).cell? ⟨b, 6, none⟩ = some u6
  e7 : (st14 w2 b u0 u1 u2 u3 u4 u5 u6 u7 u8 u9 u10 u11 u12 u13).cell? ⟨b, 7, none⟩ = some u7
  e8 : (st14 w2 b u0 u1 u2 u3 u4 u5 u6 u7 u8 u9 u10 u11 u12 u13).cell? ⟨b, 8, none⟩ = some u8
  e9 : (st14 w2 b u0 u1 u2 u3 u4 u5 u6 u7 u8 u9 u10 u11 u12 u13).cell? ⟨b, 9, none⟩ = some u9
  e10 : (st14 w2 b u0 u1 u2 u3 u4 u5 u6 u7 u8 u9 u10 u11 u12 u13).cell? ⟨b, 10, none⟩ = some u10
  e11 : (st14 w2 b u0 u1 u2 u3 u4 u5 u6 u7 u8 u9 u10 u11 u12 u13).cell? ⟨b, 11, none⟩ = some u11
  e12 : (st14 w2 b u0 u1 u2 u3 u4 u5 u6 u7 u8 u9 u10 u11 u12 u13).cell? ⟨b, 12, none⟩ = some u12
  e13 : (st14 w2 b u0 u1 u2 u3 u4 u5 u6 u7 u8 u9 u10 u11 u12 u13).cell? ⟨b, 13, none⟩ = some u13
theorem box14_of {w2 : World} {b : Nat} {T : TypeId} {a0 a1 a2 a3 a4 a5 a6 a7 a8 a9 a10 a11 a12 a13 : Value} (h : own w2 b #[a0, a1, a2, a3, a4, a5, a6, a7, a8, a9, a10, a11, a12, a13] T) (u0 u1 u2 u3 u4 u5 u6 u7 u8 u9 u10 u11 u12 u13 : Value) : Box14 w2 b a0 a1 a2 a3 a4 a5 a6 a7 a8 a9 a10 a11 a12 a13 u0 u1 u2 u3 u4 u5 u6 u7 u8 u9 u10 u11 u12 u13 :=
  ⟨(h.cell 0).trans rfl, (h.cell 1).trans rfl, (h.cell 2).trans rfl, (h.cell 3).trans rfl, (h.cell 4).trans rfl, (h.cell 5).trans rfl, (h.cell 6).trans rfl, (h.cell 7).trans rfl, (h.cell 8).trans rfl, (h.cell 9).trans rfl, (h.cell 10).trans rfl, (h.cell 11).trans rfl, (h.cell 12).trans rfl, (h.cell 13).trans rfl, h.frozen 0, h.frozen 1, h.frozen 2, h.frozen 3, h.frozen 4, h.frozen 5, h.frozen 6, h.frozen 7, h.frozen 8, h.frozen 9, h.frozen 10, h.frozen 11, h.frozen 12, h.frozen 13, ((st14_own h u0 u1 u2 u3 u4 u5 u6 u7 u8 u9 u10 u11 u12 u13).cell 0).trans rfl, ((st14_own h u0 u1 u2 u3 u4 u5 u6 u7 u8 u9 u10 u11 u12 u13).cell 1).trans rfl, ((st14_own h u0 u1 u2 u3 u4 u5 u6 u7 u8 u9 u10 u11 u12 u13).cell 2).trans rfl, ((st14_own h u0 u1 u2 u3 u4 u5 u6 u7 u8 u9 u10 u11 u12 u13).cell 3).trans rfl, ((st14_own h u0 u1 u2 u3 u4 u5 u6 u7 u8 u9 u10 u11 u12 u13).cell 4).trans rfl, ((st14_own h u0 u1 u2 u3 u4 u5 u6 u7 u8 u9 u10 u11 u12 u13).cell 5).trans rfl, ((st14_own h u0 u1 u2 u3 u4 u5 u6 u7 u8 u9 u10 u11 u12 u13).cell 6).trans rfl, ((st14_own h u0 u1 u2 u3 u4 u5 u6 u7 u8 u9 u10 u11 u12 u13).cell 7).trans rfl, ((st14_own h u0 u1 u2 u3 u4 u5 u6 u7 u8 u9 u10 u11 u12 u13).cell 8).trans rfl, ((st14_own h u0 u1 u2 u3 u4 u5 u6 u7 u8 u9 u10 u11 u12 u13).cell 9).trans rfl, ((st14_own h u0 u1 u2 u3 u4 u5 u6 u7 u8 u9 u10 u11 u12 u13).cell 10).trans rfl, ((st14_own h u0 u1 u2 u3 u4 u5 u6 u7 u8 u9 u10 u11 u12 u13).cell 11).trans rfl, ((st14_own h u0 u1 u2 u3 u4 u5 u6 u7 u8 u9 u10 u11 u12 u13).cell 12).trans rfl, ((st14_own h u0 u1 u2 u3 u4 u5 u6 u7 u8 u9 u10 u11 u12 u13).cell 13).trans rfl⟩
theorem seven {xs : List Int} (h : xs.length = 7) : ∃ x0 x1 x2 x3 x4 x5 x6, xs = [x0, x1, x2, x3, x4, x5, x6] := by
  match xs, h with
  | [x0, x1, x2, x3, x4, x5, x6], _ => exact ⟨x0, x1, x2, x3, x4, x5, x6, rfl⟩
def m7 (x0 x1 x2 x3 x4 x5 x6 : Int) : Ms := ⟨x0, x1, x2, x3, x4, x5, x6, false, [], 0, 0, [], ⟨#[]⟩, ⟨#[]⟩⟩
theorem upM_start {w wr : World} {s : RS} {arr : Array Value} (h : UpB w wr s arr) (x0 x1 x2 x3 x4 x5 x6 : Int) : UpM w (wr.alloc (.cells (msCells (m7 x0 x1 x2 x3 x4 x5 x6) zV zV) 27)) wr.heap.size s (m7 x0 x1 x2 x3 x4 x5 x6) zV zV := by
  have hb : Below wr.heap.size wr (wr.alloc (.cells (msCells (m7 x0 x1 x2 x3 x4 x5 x6) zV zV) 27)) := (Below.refl _ _).alloc (Nat.le_refl _) _
  have := h.arr.lt
  exact ⟨h.res.same (hb.block _ h.res.lt), h.rdr.same (hb.block _ h.rdr.lt), own.new wr _ _, rOwn_nil _, rOwn_nil _, fun b e => by simp [Value.ownBlock] at e, fun b e => by simp [Value.ownBlock] at e, h.below.trans (hb.mono h.below.size), by omega, h.short⟩
def Up2 (w : World) (g : Nat) (m : Ms) (n : Int) (s3 : RS) (u : Value) (wr : World) : Prop :=
  ∃ (i : Nat) (s : RS) (es : List Me) (a : Option Addr) (cap : Nat), i ≤ 9 ∧ u = .int .i64 (i : Int) ∧ es.length = i ∧ UpM w wr g s { m with ents := es } (.slice a i cap) zV ∧ Hid (lenEs n 9 0 s3 = (es ++ (lenEs n (9 - i) i s).1, (lenEs n (9 - i) i s).2))
theorem upInt' {w wr : World} {g : Nat} {s : RS} {m : Ms} {ev vv : Value} (h : UpM w wr g s m ev vv) {n : Int} {s2 : RS} (he : rdI s = (n, s2)) :
    Calls Try.prog 55 #[.pointer (some ⟨w.heap.size + 1, 0, none⟩)] wr fun e w' => e = .returned (.int .i64 n) ∧ UpM w w' g s2 m ev vv := by
  have := upInt h
  rw [he] at this
  exact this
theorem upText' {w wr : World} {g : Nat} {s : RS} {m : Ms} {ev vv : Value} (h : UpM w wr g s m ev vv) {n : ByteArray} {s2 : RS} (he : rdT s = (n, s2)) :
    Calls Try.prog 57 #[.pointer (some ⟨w.heap.size + 1, 0, none⟩)] wr fun e w' => e = .returned (.string n) ∧ UpM w w' g s2 m ev vv := by
  have := upText h
  rw [he] at this
  exact this
theorem upVot' {w wr : World} {g : Nat} {s : RS} {m : Ms} {ev vv : Value} (h : UpM w wr g s m ev vv) {vs : List Int} {r1 : List UInt8} {r2 fi : Bool} (he : lenV s = (vs, (r1, r2), fi)) :
    Calls Try.prog 40 #[.string (mk s.1)] wr fun e w' => ∃ a cap, e = .returned (.tuple #[.slice a vs.length cap, .string (mk r1), .bool fi]) ∧ UpM w w' g s m ev vv ∧ ROwn numTy w' (.slice a vs.length cap) vs ∧ (∀ b, (Value.slice a vs.length cap).ownBlock = some b → g < b) ∧ r1.length ≤ maxLen ∧ r2 = s.2 := by
  have := upVot h
  rw [he] at this
  exact this
theorem un_none {w w1 : World} {g : Nat} {s : RS} {m : Ms} {ev vv : Value} (h : UpM w w1 g s m ev vv) : Box14 w1 w.heap.size (.int .i64 0) (.int .i64 0) (.int .i64 0) (.int .i64 0) (.int .i64 0) (.int .i64 0) (.int .i64 0) (.bool false) (.slice none 0 0) (.int .i64 0) (.int .i64 0) (.slice none 0 0) (.string ⟨#[]⟩) (.string ⟨#[]⟩) (.int .i64 0) (.int .i64 0) (.int .i64 0) (.int .i64 0) (.int .i64 0) (.int .i64 0) (.int .i64 0) (.bool false) (.slice none 0 0) (.int .i64 0) (.int .i64 0) (.slice none 0 0) (.string ⟨#[]⟩) (.string ⟨#[]⟩) ∧ Hid (Below w.heap.size w (st14 w1 w.heap.size (.int .i64 0) (.int .i64 0) (.int .i64 0) (.int .i64 0) (.int .i64 0) (.int .i64 0) (.int .i64 0) (.bool false) (.slice none 0 0) (.int .i64 0) (.int .i64 0) (.slice none 0 0) (.string ⟨#[]⟩) (.string ⟨#[]⟩))) := by
  have hbl := h.below
  exact ⟨box14_of h.res _ _ _ _ _ _ _ _ _ _ _ _ _ _, hid ((((((((((((((hbl.setCell (Nat.le_refl _) _).setCell (Nat.le_refl _) _).setCell (Nat.le_refl _) _).setCell (Nat.le_refl _) _).setCell (Nat.le_refl _) _).setCell (Nat.le_refl _) _).setCell (Nat.le_refl _) _).setCell (Nat.le_refl _) _).setCell (Nat.le_refl _) _).setCell (Nat.le_refl _) _).setCell (Nat.le_refl _) _).setCell (Nat.le_refl _) _).setCell (Nat.le_refl _) _).setCell (Nat.le_refl _) _)⟩
theorem same14 (w1 : World) (b b' : Nat) (hb : b' ≠ b) (u0 u1 u2 u3 u4 u5 u6 u7 u8 u9 u10 u11 u12 u13 : Value) : (st14 w1 b u0 u1 u2 u3 u4 u5 u6 u7 u8 u9 u10 u11 u12 u13).heap[b']? = w1.heap[b']? := by
  unfold st14
  iterate 14 rw [Below.heap_setCell _ _ _ _ hb]
theorem un_some {w w1 : World} {g : Nat} {s : RS} {m : Ms} {ev vv : Value} (h : UpM w w1 g s m ev vv) : Box14 w1 w.heap.size (.int .i64 0) (.int .i64 0) (.int .i64 0) (.int .i64 0) (.int .i64 0) (.int .i64 0) (.int .i64 0) (.bool false) (.slice none 0 0) (.int .i64 0) (.int .i64 0) (.slice none 0 0) (.string ⟨#[]⟩) (.string ⟨#[]⟩) (.int .i64 m.kind) (.int .i64 m.fr) (.int .i64 m.to_) (.int .i64 m.term) (.int .i64 m.index) (.int .i64 m.logTerm) (.int .i64 m.commit) (.bool m.ok) ev (.int .i64 m.bi) (.int .i64 m.bt) vv (.string m.bd) (.string m.dt) ∧ Hid (Below w.heap.size w (st14 w1 w.heap.size (.int .i64 m.kind) (.int .i64 m.fr) (.int .i64 m.to_) (.int .i64 m.term) (.int .i64 m.index) (.int .i64 m.logTerm) (.int .i64 m.commit) (.bool m.ok) ev (.int .i64 m.bi) (.int .i64 m.bt) vv (.string m.bd) (.string m.dt)) ∧ MsAt (st14 w1 w.heap.size (.int .i64 m.kind) (.int .i64 m.fr) (.int .i64 m.to_) (.int .i64 m.term) (.int .i64 m.index) (.int .i64 m.logTerm) (.int .i64 m.commit) (.bool m.ok) ev (.int .i64 m.bi) (.int .i64 m.bt) vv (.string m.bd) (.string m.dt)) m ev vv) := by
  have hbl := h.below
  have ho := h.ord
  exact ⟨box14_of h.res _ _ _ _ _ _ _ _ _ _ _ _ _ _, hid ⟨((((((((((((((hbl.setCell (Nat.le_refl _) _).setCell (Nat.le_refl _) _).setCell (Nat.le_refl _) _).setCell (Nat.le_refl _) _).setCell (Nat.le_refl _) _).setCell (Nat.le_refl _) _).setCell (Nat.le_refl _) _).setCell (Nat.le_refl _) _).setCell (Nat.le_refl _) _).setCell (Nat.le_refl _) _).setCell (Nat.le_refl _) _).setCell (Nat.le_refl _) _).setCell (Nat.le_refl _) _).setCell (Nat.le_refl _) _), (h.ents.same (fun b e => same14 w1 _ b (by have := h.en b e; omega) _ _ _ _ _ _ _ _ _ _ _ _ _ _)).rAt, (h.vot.same (fun b e => same14 w1 _ b (by have := h.vn b e; omega) _ _ _ _ _ _ _ _ _ _ _ _ _ _)).rAt⟩⟩
set_option maxHeartbeats 8000000 in
theorem refUnpack_any (l : List UInt8) (w : World) (hl : l.length ≤ 10000000) :
    Calls Try.prog 39 #[.string (mk l)] w (UnPost w (unpackN l)) := by
  rw [← lenU_is]
  obtain ⟨q, hq⟩ : ∃ q, lenU l = q := ⟨_, rfl⟩
  rw [hq]
  have HQ := hid hq
  clear hq
  obtain ⟨w0, hw0⟩ : ∃ w0, ((w.alloc (.cells #[.int .i64 0, .int .i64 0, .int .i64 0, .int .i64 0, .int .i64 0, .int .i64 0, .int .i64 0, .bool false, .slice none 0 0, .int .i64 0, .int .i64 0, .slice none 0 0, .string ⟨#[]⟩, .string ⟨#[]⟩] 27)).alloc (.cells #[.string (mk l), .bool true] 87)).alloc (.cells #[.int .i64 0, .int .i64 0, .int .i64 0, .int .i64 0, .int .i64 0, .int .i64 0, .int .i64 0] 88) = w0 := ⟨_, rfl⟩
  have HStart : Hid (Up1 w l (.int .i64 0) w0) := hid (by
    have z1 : (w.alloc (.cells #[.int .i64 0, .int .i64 0, .int .i64 0, .int .i64 0, .int .i64 0, .int .i64 0, .int .i64 0, .bool false, .slice none 0 0, .int .i64 0, .int .i64 0, .slice none 0 0, .string ⟨#[]⟩, .string ⟨#[]⟩] 27)).heap.size = w.heap.size + 1 := by simp
    have z2 : ((w.alloc (.cells #[.int .i64 0, .int .i64 0, .int .i64 0, .int .i64 0, .int .i64 0, .int .i64 0, .int .i64 0, .bool false, .slice none 0 0, .int .i64 0, .int .i64 0, .slice none 0 0, .string ⟨#[]⟩, .string ⟨#[]⟩] 27)).alloc (.cells #[.string (mk l), .bool true] 87)).heap.size = w.heap.size + 2 := by simp
    refine ⟨0, by omega, rfl, ?_, ?_, ?_, ?_, by show l.length ≤ maxLen; unfold maxLen; omega⟩
    · rw [← hw0]
      exact own.same (own.same (own.new w _ _) (Below.heap_alloc _ _ _ (by simp))) (Below.heap_alloc _ _ _ (by simp; omega))
    · rw [← hw0, ← z1]
      exact own.same (own.new _ _ _) (Below.heap_alloc _ _ _ (by simp))
    · rw [← hw0, ← z2]
      exact own.new _ _ _
    · rw [← hw0]
      exact (((Below.refl _ _).alloc (Nat.le_refl _) _).alloc (by omega) _).alloc (by omega) _)
  have n5 : (w.heap.size + 1 + 1) = w.heap.size + 2 := by omega
  go_enter Try.func39, Try.ntmps39
  go_wp2
  clear hw0
  go_loopw [6] (Up1 w l) (fun i _ => 7 - (intOf i).toNat)
  case atStart => exact HStart.out
  case round =>
    obtain ⟨k, hk, rfl, hU⟩ := hrel
    have HU := hid hU
    clear hU
    by_cases hk7 : k < 7
    · have hkI : (k : Int) < 7 := by omega
      have HI := hid (rdInt_any _ HU.out.rdr HU.out.short)
      have HNx : Hid (∀ e w', RdPost wr (w.heap.size + 1) (.int .i64 (rdI (rdIs k (l, true)).2).1) (rdI (rdIs k (l, true)).2).2 e w' → w'.cell? ⟨w.heap.size + 2, k, none⟩ = some (.int .i64 0) ∧ w'.frozen? ⟨w.heap.size + 2, k, none⟩ = false ∧ Hid (Up1 w l (.int .i64 ((k : Int) + 1)) (w'.setCell ⟨w.heap.size + 2, k, none⟩ (.int .i64 (rdI (rdIs k (l, true)).2).1)))) := hid (fun e w' hp => by
        obtain ⟨_, ho, hc, hs⟩ := hp
        have o2 := HU.out.arr.chg hc (by omega)
        have hs5 : ∀ b, b ≠ w.heap.size + 2 → (w'.setCell ⟨w.heap.size + 2, k, none⟩ (.int .i64 (rdI (rdIs k (l, true)).2).1)).heap[b]? = w'.heap[b]? := fun b hb => Below.heap_setCell _ _ _ _ hb
        refine ⟨(o2.cell k).trans (arr_at l k hk7), o2.frozen k, hid ⟨k + 1, by omega, by push_cast; rfl, (HU.out.res.chg hc (by omega)).same (hs5 _ (by omega)), ho.same (hs5 _ (by omega)), ?_, (HU.out.below.trans (hc.below HU.out.below.size (fun b e => by omega))).setCell (by show w.heap.size ≤ w.heap.size + 2; omega) _, hs⟩⟩
        rw [← arr_step l k hk7]
        exact o2.set k _)
      generalize (rdI (rdIs k (l, true)).2).1 = x at *
      go_wp2_with (go_at_call 55; (with_reducible refine HI.out.mono ?_); rintro e w' hp; obtain ⟨ca, fa, HR⟩ := HNx.out _ _ hp; obtain ⟨rfl, -, -, -⟩ := hp)
      go_roundw
      case rel => exact HR.out
      case measure => simp [intOf]; omega
    · obtain rfl : k = 7 := by omega
      obtain ⟨x0, x1, x2, x3, x4, x5, x6, hx⟩ := seven (rdIs_len 7 (l, true))
      have HX := hid hx
      have harr : arrK l 7 = #[.int .i64 x0, .int .i64 x1, .int .i64 x2, .int .i64 x3, .int .i64 x4, .int .i64 x5, .int .i64 x6] := by unfold arrK; rw [hx]; rfl
      have oa := HU.out.arr
      rw [harr] at oa
      have c0 := (oa.cell 0).trans rfl
      have c1 := (oa.cell 1).trans rfl
      have c2 := (oa.cell 2).trans rfl
      have c3 := (oa.cell 3).trans rfl
      have c4 := (oa.cell 4).trans rfl
      have c5 := (oa.cell 5).trans rfl
      have c6 := (oa.cell 6).trans rfl
      have hUM := upM_start HU.out x0 x1 x2 x3 x4 x5 x6
      obtain ⟨g, hg⟩ : ∃ g, wr.heap.size = g := ⟨_, rfl⟩
      obtain ⟨wM, hwM⟩ : ∃ wM, wr.alloc (.cells #[.int .i64 x0, .int .i64 x1, .int .i64 x2, .int .i64 x3, .int .i64 x4, .int .i64 x5, .int .i64 x6, .bool false, .slice none 0 0, .int .i64 0, .int .i64 0, .slice none 0 0, .string ⟨#[]⟩, .string ⟨#[]⟩] 27) = wM := ⟨_, rfl⟩
      obtain ⟨st, hst⟩ : ∃ st, (rdIs 7 (l, true)).2 = st := ⟨_, rfl⟩
      rw [hst, hg] at hUM
      have hUM : UpM w wM g st (m7 x0 x1 x2 x3 x4 x5 x6) zV zV := by rw [← hwM]; exact hUM
      have HST := hid hst
      have HUM := hid hUM
      obtain ⟨r0, r1, r2⟩ := upM_r0 hUM
      subst hg hwM
      clear hUM oa harr hx hst HU
      cases hd : dB st.1 with
      | none =>
        have hqn : q = none := by
          rw [← HQ.out]
          unfold lenU lenM
          simp only [HST.out, hd]
          rfl
        subst hqn
        have HB := hid (rB_no hd HUM.out.short (wr.alloc (.cells #[.int .i64 x0, .int .i64 x1, .int .i64 x2, .int .i64 x3, .int .i64 x4, .int .i64 x5, .int .i64 x6, .bool false, .slice none 0 0, .int .i64 0, .int .i64 0, .slice none 0 0, .string ⟨#[]⟩, .string ⟨#[]⟩] 27)))
        have HF : Hid (∀ w1, Below (wr.alloc (.cells #[.int .i64 x0, .int .i64 x1, .int .i64 x2, .int .i64 x3, .int .i64 x4, .int .i64 x5, .int .i64 x6, .bool false, .slice none 0 0, .int .i64 0, .int .i64 0, .slice none 0 0, .string ⟨#[]⟩, .string ⟨#[]⟩] 27)).heap.size (wr.alloc (.cells #[.int .i64 x0, .int .i64 x1, .int .i64 x2, .int .i64 x3, .int .i64 x4, .int .i64 x5, .int .i64 x6, .bool false, .slice none 0 0, .int .i64 0, .int .i64 0, .slice none 0 0, .string ⟨#[]⟩, .string ⟨#[]⟩] 27)) w1 → Box14 w1 w.heap.size (.int .i64 0) (.int .i64 0) (.int .i64 0) (.int .i64 0) (.int .i64 0) (.int .i64 0) (.int .i64 0) (.bool false) (.slice none 0 0) (.int .i64 0) (.int .i64 0) (.slice none 0 0) (.string ⟨#[]⟩) (.string ⟨#[]⟩) (.int .i64 0) (.int .i64 0) (.int .i64 0) (.int .i64 0) (.int .i64 0) (.int .i64 0) (.int .i64 0) (.bool false) (.slice none 0 0) (.int .i64 0) (.int .i64 0) (.slice none 0 0) (.string ⟨#[]⟩) (.string ⟨#[]⟩) ∧ Hid (Below w.heap.size w (st14 w1 w.heap.size (.int .i64 0) (.int .i64 0) (.int .i64 0) (.int .i64 0) (.int .i64 0) (.int .i64 0) (.int .i64 0) (.bool false) (.slice none 0 0) (.int .i64 0) (.int .i64 0) (.slice none 0 0) (.string ⟨#[]⟩) (.string ⟨#[]⟩)))) := hid (fun w1 hb => by
          have h1 := HUM.out.later hb
          have hbl := h1.below
          exact ⟨box14_of h1.res _ _ _ _ _ _ _ _ _ _ _ _ _ _, hid ((((((((((((((hbl.setCell (Nat.le_refl _) _).setCell (Nat.le_refl _) _).setCell (Nat.le_refl _) _).setCell (Nat.le_refl _) _).setCell (Nat.le_refl _) _).setCell (Nat.le_refl _) _).setCell (Nat.le_refl _) _).setCell (Nat.le_refl _) _).setCell (Nat.le_refl _) _).setCell (Nat.le_refl _) _).setCell (Nat.le_refl _) _).setCell (Nat.le_refl _) _).setCell (Nat.le_refl _) _).setCell (Nat.le_refl _) _)⟩)
        clear hd
        go_wp2_with (go_at_call 56; (with_reducible refine HB.out.mono ?_); rintro e w1 ⟨rfl, hb⟩; obtain ⟨⟨k0, k1, k2, k3, k4, k5, k6, k7, k8, k9, k10, k11, k12, k13, f0, f1, f2, f3, f4, f5, f6, f7, f8, f9, f10, f11, f12, f13, e0, e1, e2, e3, e4, e5, e6, e7, e8, e9, e10, e11, e12, e13⟩, HT⟩ := HF.out _ hb; clear hb)
        exact bodyPost_ret (v := .tuple #[msV zMs zV zV, .int .i64 8]) (by simp [results, Try.results39, go_sem, e0, e1, e2, e3, e4, e5, e6, e7, e8, e9, e10, e11, e12, e13, msV, zMs]) rfl ⟨HT.out, rfl⟩
      | some p =>
        obtain ⟨b, r⟩ := p
        have hrl : r.length ≤ maxLen := by
          have h1 := dB_sound hd
          have h2 := HUM.out.short
          rw [h1, List.length_append] at h2
          omega
        have HB := hid (rB_yes hd HUM.out.short (wr.alloc (.cells #[.int .i64 x0, .int .i64 x1, .int .i64 x2, .int .i64 x3, .int .i64 x4, .int .i64 x5, .int .i64 x6, .bool false, .slice none 0 0, .int .i64 0, .int .i64 0, .slice none 0 0, .string ⟨#[]⟩, .string ⟨#[]⟩] 27)))
        have HF : Hid (∀ w1, Below (wr.alloc (.cells #[.int .i64 x0, .int .i64 x1, .int .i64 x2, .int .i64 x3, .int .i64 x4, .int .i64 x5, .int .i64 x6, .bool false, .slice none 0 0, .int .i64 0, .int .i64 0, .slice none 0 0, .string ⟨#[]⟩, .string ⟨#[]⟩] 27)).heap.size (wr.alloc (.cells #[.int .i64 x0, .int .i64 x1, .int .i64 x2, .int .i64 x3, .int .i64 x4, .int .i64 x5, .int .i64 x6, .bool false, .slice none 0 0, .int .i64 0, .int .i64 0, .slice none 0 0, .string ⟨#[]⟩, .string ⟨#[]⟩] 27)) w1 → w1.cell? ⟨wr.heap.size, 7, none⟩ = some (.bool false) ∧ w1.frozen? ⟨wr.heap.size, 7, none⟩ = false ∧ (w1.setCell ⟨wr.heap.size, 7, none⟩ (.bool b)).cell? ⟨w.heap.size + 1, 0, none⟩ = some (.string (mk st.1)) ∧ (w1.setCell ⟨wr.heap.size, 7, none⟩ (.bool b)).frozen? ⟨w.heap.size + 1, 0, none⟩ = false ∧
            Hid (Calls Try.prog 55 #[.pointer (some ⟨w.heap.size + 1, 0, none⟩)] ((w1.setCell ⟨wr.heap.size, 7, none⟩ (.bool b)).setCell ⟨w.heap.size + 1, 0, none⟩ (.string (mk r))) fun e w' => e = .returned (.int .i64 (rdI (r, st.2)).1) ∧ UpM w w' wr.heap.size (rdI (r, st.2)).2 { m7 x0 x1 x2 x3 x4 x5 x6 with ok := b } zV zV)) := hid (fun w1 hb => by
          have h1 := HUM.out.later hb
          have h2 := h1.put (m' := { m7 x0 x1 x2 x3 x4 x5 x6 with ok := b }) (ev' := zV) (vv' := zV) 7 (.bool b) rfl h1.ents h1.vot h1.en h1.vn
          have h3 := upM_rput h2 r hrl
          exact ⟨(h1.msg.cell 7).trans rfl, h1.msg.frozen 7, (upM_r0 h2).1, (upM_r0 h2).2.2, hid (upInt h3)⟩)
        have HD := hid hd
        clear hd hrl
        go_wp2_with (first
          | (go_at_call 56; (with_reducible refine HB.out.mono ?_); rintro e w1 ⟨rfl, hb⟩; obtain ⟨k7, f7, k0, f0, HI⟩ := HF.out _ hb; clear hb)
          | (go_at_call 55; (with_reducible refine HI.out.mono ?_); rintro e w3 ⟨rfl, hU4⟩; have HU4 := hid hU4; clear hU4))
        obtain ⟨n, hn⟩ : ∃ n, (rdI (r, st.2)).1 = n := ⟨_, rfl⟩
        obtain ⟨s3, hs3⟩ : ∃ s3, (rdI (r, st.2)).2 = s3 := ⟨_, rfl⟩
        have HN := hid hn
        have HS3 := hid hs3
        rw [hs3] at HU4
        rw [hn]
        clear hn hs3 HB HF HI k7 f7 k0 f0 c0 c1 c2 c3 c4 c5 c6 r0 r1 r2 HUM
        generalize wr.heap.size = g at *
        obtain ⟨m1, hm1⟩ : ∃ m1, ({ m7 x0 x1 x2 x3 x4 x5 x6 with ok := b } : Ms) = m1 := ⟨_, rfl⟩
        rw [hm1] at HU4
        have HM1 := hid hm1
        have HV1 : Hid (m1.vot = []) := hid (by rw [← hm1]; rfl)
        have HE1 : Hid ({ m1 with ents := [] } = m1) := hid (by rw [← hm1]; rfl)
        clear hm1
        go_loopw [12] (Up2 w g m1 n s3) (fun i _ => 9 - (intOf i).toNat)
        case atStart => exact ⟨0, s3, [], none, 0, by omega, rfl, rfl, by rw [HE1.out]; exact HU4.out, hid (by simp)⟩
        case round =>
          clear HU4
          obtain ⟨i, s, es, a, cap, hi, rfl, hes, hU, hLE⟩ := hrel
          have HU := hid hU
          have HL := hid hes
          obtain ⟨-, cok, -⟩ := upM_r0 hU
          clear hU hes
          by_cases hgo : lenGo n i s.2 = true
          · have hgo2 := hgo
            unfold lenGo at hgo2
            simp only [Bool.and_eq_true, decide_eq_true_eq] at hgo2
            obtain ⟨⟨hin, hi8⟩, hok⟩ := hgo2
            have hi8I : (i : Int) ≤ 8 := by omega
            have d1 : decide ((i : Int) < n) = true := decide_eq_true hin
            have d2 : decide ((i : Int) ≤ 8) = true := decide_eq_true hi8I
            rw [hok] at cok
            have HI1 := hid (upInt HU.out)
            have c8 : ∀ wx, Hid (UpM w wx g (lenE s).2 { m1 with ents := es } (.slice a i cap) zV) → wx.cell? ⟨g, 8, none⟩ = some (.slice a i cap) := fun wx h => (h.out.msg.cell 8).trans rfl
            have HC8 := hid c8
            clear c8
            have HEn : Hid (∀ w4, UpM w w4 g (lenE s).2 { m1 with ents := es } (.slice a i cap) zV → w4.cell? ⟨g, 8, none⟩ = some (.slice a i cap) ∧ ∃ a5 c5 w5, (Builtin.append_ #[22, 22] 22 #[.slice a i cap, .slice (some ⟨w4.heap.size, 0, none⟩) 1 1]).run Try.prog (w4.alloc (.cells #[.int .i64 (rdI s).1, .int .i64 (rdI (rdI s).2).1, .int .i64 (rdI (rdI (rdI s).2).2).1, .string (rdT (rdI (rdI (rdI s).2).2).2).1] 49)) = .ok (.slice a5 (i + 1) c5) w5 ∧
                w5.cell? ⟨g, 8, none⟩ = some (.slice a i cap) ∧ w5.frozen? ⟨g, 8, none⟩ = false ∧ Hid (Up2 w g m1 n s3 (.int .i64 ((i : Int) + 1)) (w5.setCell ⟨g, 8, none⟩ (.slice a5 (i + 1) c5)))) := hid (fun w4 h4 => by
              obtain ⟨a5, c5, w5, hr, k8, f8, h5⟩ := h4.entry HV1.out (lenE s).1 (by show es.length ≤ 1000; rw [HL.out]; omega)
              rw [show ({ m1 with ents := es } : Ms).ents.length = i from HL.out] at hr h5
              refine ⟨(h4.msg.cell 8).trans rfl, a5, c5, w5, hr, k8, f8, hid ⟨i + 1, (lenE s).2, es ++ [(lenE s).1], a5, c5, by omega, by push_cast; rfl, by simp [HL.out], h5, hid ?_⟩⟩
              rw [hLE.out, show 9 - i = (9 - (i + 1)) + 1 by omega]
              rw [show lenEs n (9 - (i + 1) + 1) i s = (if lenGo n i s.2 = true then ((lenE s).1 :: (lenEs n (9 - (i + 1)) (i + 1) (lenE s).2).1, (lenEs n (9 - (i + 1)) (i + 1) (lenE s).2).2) else ([], s)) from rfl, if_pos hgo]
              simp)
            clear hok
            go_wp2_with (first
              | (go_at_call 55; (with_reducible refine HI1.out.mono ?_); rintro e w1 ⟨rfl, h1⟩; have HI2 := hid (upInt h1); clear h1)
              | (go_at_call 55; (with_reducible refine HI2.out.mono ?_); rintro e w2 ⟨rfl, h2⟩; have HI3 := hid (upInt h2); clear h2)
              | (go_at_call 55; (with_reducible refine HI3.out.mono ?_); rintro e w3 ⟨rfl, h3⟩; have HI4 := hid (upText h3); clear h3)
              | (go_at_call 57; (with_reducible refine HI4.out.mono ?_); rintro e w4 ⟨rfl, h4⟩; obtain ⟨k8, a5, c5, w5, hrun, k9, f9, HR⟩ := HEn.out _ h4; have HRun := hid hrun; clear h4 hrun)
              | (at_builtin; refine wpList_append_at HRun.out (by with_reducible rfl) rfl _ _ rfl rfl rfl rfl ?_))
            go_roundw
            case rel => exact HR.out
            case measure => simp [intOf]; omega
          · have hgo0 : lenGo n i s.2 = false := by simpa using hgo
            have HGO := hid hgo0
            clear hgo hgo0
            go_upto_region 15 with (fail)
            go_cut [79] (fun u wx => u = .bool false ∧ wx = wr)
            case first =>
              by_cases e1 : (i : Int) < n
              · have d1 : decide ((i : Int) < n) = true := decide_eq_true e1
                by_cases e2 : i ≤ 8
                · have d2 : decide ((i : Int) ≤ 8) = true := decide_eq_true (by omega)
                  have e2I : (i : Int) ≤ 8 := by omega
                  have hv : s.2 = false := by
                    have h0 := HGO.out
                    unfold lenGo at h0
                    rw [d1, decide_eq_true e2] at h0
                    simpa using h0
                  rw [hv] at cok
                  clear hv
                  go_wp2
                  go_meet
                  exact ⟨rfl, rfl⟩
                · have d2 : decide ((i : Int) ≤ 8) = false := decide_eq_false (by omega)
                  have e2I : (8 : Int) < (i : Int) := by omega
                  go_wp2
                  go_meet
                  exact ⟨rfl, rfl⟩
              · have d1 : decide ((i : Int) < n) = false := decide_eq_false e1
                have e1I : n ≤ (i : Int) := by omega
                go_wp2
                go_meet
                exact ⟨rfl, rfl⟩
            case rest =>
            obtain ⟨rfl, rfl⟩ := hcut
            obtain ⟨n1, s1, h1⟩ : ∃ n1 s1, rdI s = (n1, s1) := ⟨_, _, rfl⟩
            obtain ⟨n2, s2, h2⟩ : ∃ n2 s2, rdI s1 = (n2, s2) := ⟨_, _, rfl⟩
            obtain ⟨vs, r1, r2, fi, h3⟩ : ∃ vs r1 r2 fi, lenV s2 = (vs, (r1, r2), fi) := ⟨_, _, _, _, rfl⟩
            obtain ⟨t1, s4, h4⟩ : ∃ t1 s4, rdT (r1, r2) = (t1, s4) := ⟨_, _, rfl⟩
            obtain ⟨t2, s5, o5, h5⟩ : ∃ t2 s5 o5, rdT s4 = (t2, (s5, o5)) := ⟨_, _, _, rfl⟩
            obtain ⟨mF, hmF⟩ : ∃ mF : Ms, { m1 with ents := es, bi := n1, bt := n2, vot := vs, bd := t1, dt := t2 } = mF := ⟨_, rfl⟩
            have hles : lenEs n 9 0 s3 = (es, s) := by
              rw [hLE.out]
              have : lenEs n (9 - i) i s = ([], s) := by
                cases 9 - i with
                | zero => rfl
                | succ f =>
                  show (if lenGo n i s.2 = true then _ else ([], s)) = ([], s)
                  rw [if_neg (by rw [HGO.out]; decide)]
              rw [this]
              simp
            have hvl : vs.length ≤ 9 := by
              unfold lenV at h3
              cases hdv : dV s2.1 with
              | none => rw [hdv] at h3; cases h3; decide
              | some p =>
                obtain ⟨ys, r'⟩ := p
                rw [hdv] at h3
                cases h3
                exact (dV_sound hdv).2.1
            have HLM : Hid (lenM l = some ⟨mF, o5, fi⟩) := hid (by
              unfold lenM
              simp only [HST.out, HD.out, Option.map_some, HN.out, HS3.out, hles, h1, h2, h3, h4, h5, HX.out]
              rw [← hmF, ← HM1.out]
              rfl)
            obtain ⟨ri, hri⟩ : ∃ ri, rightM mF = ri := ⟨_, rfl⟩
            have HRI := hid hri
            clear hri
            have HE1 := hid h1
            have HE2 := hid h2
            have HE3 := hid h3
            have HE4 := hid h4
            have HE5 := hid h5
            have HMF := hid hmF
            have HVL := hid hvl
            have HI1 := hid (upInt' HU.out h1)
            have hei : es.length ≤ 9 := by rw [HL.out]; exact hi
            have HEL : Hid (mF.ents.length ≤ maxLen ∧ mF.vot.length ≤ 1000000) := hid (by
              rw [← hmF]
              exact ⟨by show es.length ≤ maxLen; unfold maxLen; omega, by show vs.length ≤ _; omega⟩)
            clear h1 h2 h3 h4 h5 hmF hvl hles hei cok HL hLE HST HN HS3 HM1 HX HV1 HD
            go_upto_region 30 with (first
              | (go_at_call 55; (with_reducible refine HI1.out.mono ?_); rintro e w1 ⟨rfl, h1⟩; obtain ⟨c9, f9, h1b⟩ := upM_9 h1 n1; have HI2 := hid (upInt' h1b HE2.out); clear h1 h1b)
              | (go_at_call 55; (with_reducible refine HI2.out.mono ?_); rintro e w2 ⟨rfl, h2⟩; obtain ⟨c10, f10, h2b⟩ := upM_10 h2 n2; obtain ⟨cr, -, -⟩ := upM_r0 h2b; have HI3 := hid (upVot' h2b HE3.out); clear h2 h2b)
              | (go_at_call 40; (with_reducible refine HI3.out.mono ?_); rintro e w3 ⟨va, vcap, rfl, h3, hrow, hnew, hsh, hok⟩; obtain ⟨c11, f11, h3b⟩ := upM_11 h3 hrow hnew; obtain ⟨cr2, -, fr2⟩ := upM_r0 h3b; have h3c := upM_rput h3b r1 hsh; rw [← hok] at h3c; have HI4 := hid (upText' h3c HE4.out); clear h3 h3b h3c hrow hnew hsh hok)
              | (go_at_call 57; (with_reducible refine HI4.out.mono ?_); rintro e w4 ⟨rfl, h4⟩; obtain ⟨c12, f12, h4b⟩ := upM_12 h4 t1; have HI5 := hid (upText' h4b HE5.out); clear h4 h4b)
              | (go_at_call 57; (with_reducible refine HI5.out.mono ?_); rintro e w5 ⟨rfl, h5⟩; obtain ⟨c13, f13, h5b⟩ := upM_13 h5 t2; have h6 : UpM w (w5.setCell ⟨g, 13, none⟩ (.string t2)) g (s5, o5) mF (.slice a i cap) (.slice va vs.length vcap) := (by rw [← HMF.out]; exact h5b); have HU6 := hid h6; obtain ⟨k0, k1, k2, k3, k4, k5, k6, k7, k8, k9, k10, k11, k12, k13⟩ := msBox_of h6.msg; have hrt := refRight_any mF _ _ h6.at HEL.out.1 HEL.out.2; unfold msV at hrt; rw [HRI.out] at hrt; have HRT := hid hrt; clear h5 h5b h6 hrt)
              | (go_at_call 14; (with_reducible refine HRT.out.mono ?_); rintro e w6 ⟨rfl, hb6⟩; have h7 := HU6.out.later hb6; have HU7 := hid h7; obtain ⟨-, cok, -⟩ := upM_r0 h7; obtain ⟨k0, k1, k2, k3, k4, k5, k6, k7, k8, k9, k10, k11, k12, k13⟩ := msBox_of h7.msg; clear h7 hb6))
            have HV : Hid (q = if (o5 && fi && ri && decide (eM mF = l)) = true then some mF else none) := hid (by
              rw [← HQ.out]
              unfold lenU
              rw [HLM.out, ← HRI.out]
              rfl)
            clear HI1 HI2 HI3 HI4 HI5 HRT HU6 HU HE1 HE2 HE3 HE4 HE5 HMF HVL HEL HLM HGO HQ
            clear c9 f9 c10 f10 cr c11 f11 cr2 fr2 c12 f12 c13 f13
            cases o5 with
            | false =>
              obtain rfl : q = none := HV.out
              obtain ⟨⟨j0, j1, j2, j3, j4, j5, j6, j7, j8, j9, j10, j11, j12, j13, f0, f1, f2, f3, f4, f5, f6, f7, f8, f9, f10, f11, f12, f13, e0, e1, e2, e3, e4, e5, e6, e7, e8, e9, e10, e11, e12, e13⟩, HT⟩ := un_none HU7.out
              go_wp2
              exact bodyPost_ret (v := .tuple #[msV zMs zV zV, .int .i64 8]) (by simp [results, Try.results39, go_sem, e0, e1, e2, e3, e4, e5, e6, e7, e8, e9, e10, e11, e12, e13, msV, zMs]) rfl ⟨HT.out, rfl⟩
            | true =>
            cases fi with
            | false =>
              obtain rfl : q = none := HV.out
              obtain ⟨⟨j0, j1, j2, j3, j4, j5, j6, j7, j8, j9, j10, j11, j12, j13, f0, f1, f2, f3, f4, f5, f6, f7, f8, f9, f10, f11, f12, f13, e0, e1, e2, e3, e4, e5, e6, e7, e8, e9, e10, e11, e12, e13⟩, HT⟩ := un_none HU7.out
              go_wp2
              exact bodyPost_ret (v := .tuple #[msV zMs zV zV, .int .i64 8]) (by simp [results, Try.results39, go_sem, e0, e1, e2, e3, e4, e5, e6, e7, e8, e9, e10, e11, e12, e13, msV, zMs]) rfl ⟨HT.out, rfl⟩
            | true =>
            cases ri with
            | false =>
              obtain rfl : q = none := HV.out
              obtain ⟨⟨j0, j1, j2, j3, j4, j5, j6, j7, j8, j9, j10, j11, j12, j13, f0, f1, f2, f3, f4, f5, f6, f7, f8, f9, f10, f11, f12, f13, e0, e1, e2, e3, e4, e5, e6, e7, e8, e9, e10, e11, e12, e13⟩, HT⟩ := un_none HU7.out
              go_wp2
              exact bodyPost_ret (v := .tuple #[msV zMs zV zV, .int .i64 8]) (by simp [results, Try.results39, go_sem, e0, e1, e2, e3, e4, e5, e6, e7, e8, e9, e10, e11, e12, e13, msV, zMs]) rfl ⟨HT.out, rfl⟩
            | true =>
            have hby := refBytes_any mF _ _ HU7.out.at (rightM_b HRI.out)
            unfold msV at hby
            obtain ⟨S, hS⟩ : ∃ S, eM mF = S := ⟨_, rfl⟩
            rw [hS] at hby HV
            have HBY := hid hby
            clear hby hS
            by_cases hsl : S = l
            · have HQ2 : Hid (q = some mF) := hid (by rw [HV.out, hsl]; simp)
              have hqs : q = some mF := HQ2.out
              subst hqs
              have qn : (!(mk S).toList == (mk l).toList) = false := by rw [hsl]; simp
              clear hsl
              go_wp2_with (go_at_call 27; (with_reducible refine HBY.out.mono ?_); rintro e w7 ⟨rfl, hb7⟩; have h8 := HU7.out.later hb7; obtain ⟨a0, a1, a2, a3, a4, a5, a6, a7, a8, a9, a10, a11, a12, a13⟩ := msBox_of h8.msg; obtain ⟨⟨j0, j1, j2, j3, j4, j5, j6, j7, j8, j9, j10, j11, j12, j13, f0, f1, f2, f3, f4, f5, f6, f7, f8, f9, f10, f11, f12, f13, e0, e1, e2, e3, e4, e5, e6, e7, e8, e9, e10, e11, e12, e13⟩, HT⟩ := un_some h8; clear hb7 h8)
              exact bodyPost_ret (v := .tuple #[msV mF (.slice a i cap) (.slice va vs.length vcap), .int .i64 0]) (by simp [results, Try.results39, go_sem, e0, e1, e2, e3, e4, e5, e6, e7, e8, e9, e10, e11, e12, e13, msV]) rfl ⟨HT.out.1, _, _, rfl, HT.out.2⟩
            · have hqn : q = none := by rw [HV.out]; simp [hsl]
              subst hqn
              have qn : (!(mk S).toList == (mk l).toList) = true := by
                rw [Lib.toList_data, Lib.toList_data, mk_data, mk_data]
                simpa using hsl
              clear hsl
              go_wp2_with (go_at_call 27; (with_reducible refine HBY.out.mono ?_); rintro e w7 ⟨rfl, hb7⟩; have h8 := HU7.out.later hb7; obtain ⟨⟨j0, j1, j2, j3, j4, j5, j6, j7, j8, j9, j10, j11, j12, j13, f0, f1, f2, f3, f4, f5, f6, f7, f8, f9, f10, f11, f12, f13, e0, e1, e2, e3, e4, e5, e6, e7, e8, e9, e10, e11, e12, e13⟩, HT⟩ := un_none h8; clear hb7 h8)
              exact bodyPost_ret (v := .tuple #[msV zMs zV zV, .int .i64 8]) (by simp [results, Try.results39, go_sem, e0, e1, e2, e3, e4, e5, e6, e7, e8, e9, e10, e11, e12, e13, msV, zMs]) rfl ⟨HT.out, rfl⟩
end Go.Proofs.Ytppjojjejabaeaa
