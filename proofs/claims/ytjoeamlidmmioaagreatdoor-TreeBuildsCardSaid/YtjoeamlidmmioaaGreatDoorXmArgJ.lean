import Derived.Test.YtjoeamlidmmioaaGreatDoorXmAsWJ
import Derived.Test.YtjoeamlidmmioaaGreatDoorMq2J
/-
  LAYER 11 (xml): a row of tokens as an argument.
-/
namespace Go.Proofs.YtjoeamlidmmioaaGreatDoor
open Go.ChangeShapes Go.WideShapes Go.ChangeAt Go.RowKit
open Go.WideMaps Go.WideElems Go.Deep Go.Joins
set_option linter.unusedVariables false
set_option maxRecDepth 100000

theorem trodAts {H : Type} {enc : TypeId × Value → H} {W : World} {n : Nat} {v : Value} {y : DataW H × List MemPlace} (h : DataW.trod enc Tryz.prog W 0 (fun _ => true) true n 27 [v] = some y) :
    ∃ ats : List AtX, RAt atTy W v ats ∧ ats.length ≤ maxLen := by
  obtain ⟨ats, h1, -, h2⟩ := structs_trod atTy_ok h Tryz.underlying51 (by kernel_rfl) (by kernel_rfl) rfl (fun _ => True) (fun c hc => by
    obtain ⟨n0, y0, t0⟩ := hc 0 _ rfl
    obtain ⟨n1, y1, t1⟩ := hc 1 _ rfl
    obtain ⟨s0, e0, _⟩ := trodStr t0
    obtain ⟨s1, e1, _⟩ := trodStr t1
    refine ⟨⟨s0.data.toList, s1.data.toList⟩, trivial, fun j u hj => ?_⟩
    match j, hj with
    | 0, hj => cases hj; exact e0
    | 1, hj => cases hj; exact e1
    | n + 2, hj => simp [atTy] at hj)
  exact ⟨ats, h1, h2⟩
theorem tks_arg {H : Type} {enc : TypeId × Value → H} {W : World} {base : Nat} {v : Value} {d : DataW H} {p : List MemPlace} (ho : Value.okWide Tryz.prog W .any base 22 v)
    (h : DataW.Trod enc Tryz.prog W 0 (fun _ => true) true 22 v d p) :
    ∃ L : List TkX, TokAt W v L ∧ (∀ t ∈ L, I64' t.k ∧ t.as.length ≤ maxLen) ∧ L.length ≤ maxLen := by
  obtain ⟨V, hr, hin, hl⟩ := structs_arg tkTy_ok ho h Tryz.underlying48 (by kernel_rfl) (by kernel_rfl) rfl (fun x => I64' x.k ∧ ∃ ats, RAt atTy W (.slice x.a x.m x.c) ats ∧ ats.length ≤ maxLen) (fun c hc => by
    obtain ⟨n0, y0, t0⟩ := hc 0 _ rfl
    obtain ⟨n1, y1, t1⟩ := hc 1 _ rfl
    obtain ⟨n2, y2, t2⟩ := hc 2 _ rfl
    obtain ⟨n3, y3, t3⟩ := hc 3 _ rfl
    obtain ⟨k0, e0, b0⟩ := trodInt t0
    obtain ⟨s1, e1, _⟩ := trodStr t1
    obtain ⟨ats, r2, l2⟩ := trodAts t2
    obtain ⟨s3, e3, _⟩ := trodStr t3
    obtain ⟨a, cap, e2, _⟩ := r2.at atTy_ok
    refine ⟨⟨k0, s1.data.toList, a, ats.length, cap, s3.data.toList⟩, ⟨b0, ats, by rw [← e2]; exact r2, l2⟩, fun j u hj => ?_⟩
    match j, hj with
    | 0, hj => cases hj; exact e0
    | 1, hj => cases hj; exact e1
    | 2, hj => cases hj; exact e2
    | 3, hj => cases hj; exact e3
    | n + 4, hj => simp [tkTy] at hj)
  obtain ⟨L, hL, hA⟩ := listOf (n := V.length) (Q := fun i (t : TkX) => ∀ x, V[i]? = some x → TkIs W x t ∧ I64' t.k ∧ t.as.length ≤ maxLen) (fun i hi => by
    obtain ⟨b0, ats, r, l⟩ := hin _ (List.getElem_mem hi)
    refine ⟨⟨V[i].k, V[i].n, ats, V[i].t⟩, fun x hx => ?_⟩
    rw [List.getElem?_eq_getElem hi] at hx
    cases hx
    exact ⟨⟨rfl, rfl, rfl, r⟩, b0, l⟩)
  refine ⟨L, ⟨V, hr, hL.symm, fun i x t hx ht => (hA i t ht x hx).1⟩, fun t ht => ?_, by omega⟩
  obtain ⟨i, hi, rfl⟩ := List.getElem_of_mem ht
  exact (hA i L[i] (by simp [hi]) _ (List.getElem?_eq_getElem (by omega))).2
end Go.Proofs.YtjoeamlidmmioaaGreatDoor

