/-
  LAYER 8 (rlog), THE PROGRAM's LOG: slices.Replace of a row's end; replace.
-/
import Derived.Test.YtiffdhihhggkhaaPlMatchA
import Derived.Test.YtiffdhihhggkhaaPlReb2
namespace Go.Proofs.Ytiffdhihhggkhaa
open Go.RowKit
set_option linter.unusedVariables false
set_option maxRecDepth 100000

section
variable {α : Type} {R : RowTy α}
/-- append(s, u..) where there is room. -/
theorem ROwn.appFits (o : R.Ok) {w : World} {g cap : Nat} {L : List α} (h : ROwn R w (.slice (some ⟨g, 0, none⟩) L.length cap) L) {u : Value} {M : List α} (hu : RAt R w u M) (hM : M ≠ []) (hroom : L.length + M.length ≤ cap) (ty : TypeId) :
    ∃ w1, (Builtin.append_ #[R.st, R.st] ty #[.slice (some ⟨g, 0, none⟩) L.length cap, u]).run Try.prog w = .ok (.slice (some ⟨g, 0, none⟩) (L.length + M.length) cap) w1 ∧ ROwn R w1 (.slice (some ⟨g, 0, none⟩) (L.length + M.length) cap) (L ++ M) ∧ Chg (fun b => b = g) w w1 := by
  obtain ⟨i0, hi, hz0, hzs, _⟩ := o.parts
  obtain ⟨a, c, rfl, _, _, _, hcells⟩ := hu
  obtain ⟨sb, so, rfl, _, hxs⟩ := hcells hM
  obtain ⟨w1, hr1, hown1, hg1⟩ := run_append_fits (P := Try.prog) w 0 R.st ty R.el i0 R.n o.under hi hzs g L.length cap (R.flat L) h ⟨sb, so, none⟩ M.length c (R.flat M) (flat_length o M) (fun j u hj => by rw [Go.WideShapes.add_plain]; exact hxs j u hj) (flat_one o _) hroom
  refine ⟨w1, hr1, ?_, (Chg.of_grown hg1).mono (fun x e => by cases e; rfl)⟩
  unfold ROwn
  rw [List.length_append, flat_append]
  exact hown1
end
def RepPost (w : World) (lv : Value) (L : List Me) (e : Ending) (w' : World) : Prop :=
  ∃ a c, e = .returned (.slice a L.length c) ∧ ROwn enTy w' (.slice a L.length c) L ∧ Chg (fun b => lv.ownBlock = some b) w w' ∧ ∀ b, (Value.slice a L.length c).ownBlock = some b → lv.ownBlock = some b ∨ w.heap.size ≤ b
theorem rep_app {w : World} {a : Option Addr} {cap : Nat} {L M : List Me} (h : ROwn enTy w (.slice a L.length cap) L) {u : Value} (hu : RAt enTy w u M) (hl : L.length + M.length ≤ 10000000) : ∃ a' c' w', (Builtin.append_ #[26, 26] 26 #[.slice a L.length cap, u]).run Try.prog w = .ok (.slice a' (L.length + M.length) c') w' ∧ RepPost w (.slice a L.length cap) (L ++ M) (.returned (.slice a' (L.length + M.length) c')) w' := by
  obtain ⟨ao, c, w', e, hro, hg, hat⟩ := run_app enTy_ok w 26 _ u L M h hu hl
  refine ⟨ao, c, w', e, ao, c, by rw [List.length_append], by rw [List.length_append]; exact hro, Chg.of_grown hg, fun b e' => ?_⟩
  rw [List.length_append] at e'
  rcases hat with k | k
  · exact .inl (by rw [← k]; exact e')
  · rw [k] at e'; have := Option.some.inj e'; exact .inr (by omega)
set_option maxHeartbeats 8000000 in
theorem plInsert_any {w : World} {a : Option Addr} {cap : Nat} {L M : List Me} (h : ROwn enTy w (.slice a L.length cap) L) {u : Value} (hu : RAt enTy w u M) (hM : M ≠ []) (hl : L.length + M.length ≤ 100000) :
    Calls Try.prog 64 #[.slice a L.length cap, .int .i64 (L.length : Int), u] w (RepPost w (.slice a L.length cap) (L ++ M)) := by
  obtain ⟨ua, uc, rfl, _⟩ := id hu
  obtain ⟨_, _, e, hlc, hnone, hcm⟩ := h.slice
  cases e
  obtain ⟨a', c', w', e1, hp⟩ := rep_app h hu (by omega)
  have HF := hid hp
  have E1 := hid e1
  have hpos : 0 < M.length := List.length_pos_iff.2 hM
  have q1 : ((M.length : Int) == 0) = false := beq_false_of_ne (by omega)
  have l1 : ∀ wx : World, (Instr.slice 26 (.slice a L.length cap) (some (.int .i64 (L.length : Int))) none none).run Try.prog wx = .ok (enTy.from a L.length cap L.length) wx := fun wx => run_from enTy_ok wx a L.length cap L.length (Nat.le_refl _) hlc
  clear h hu hp e1 hnone hM
  generalize enTy.from a L.length cap L.length = vf at *
  go_enter Try.func64, Try.ntmps64
  go_wp2_with (at_builtin; refine wpList_append_at E1.out (by with_reducible rfl) rfl _ _ rfl rfl rfl rfl ?_)
  go_ret
  exact HF.out
set_option maxHeartbeats 16000000 in
theorem plReplaceS_any {w : World} {a : Option Addr} {cap : Nat} {L M : List Me} (h : ROwn enTy w (.slice a L.length cap) L) {u : Value} (hu : RAt enTy w u M) (hM : M ≠ []) (hl : L.length + M.length ≤ 100000) {i : Nat} (hi : i ≤ L.length) :
    Calls Try.prog 56 #[.slice a L.length cap, .int .i64 (i : Int), .int .i64 (L.length : Int), u] w (RepPost w (.slice a L.length cap) (L.take i ++ M)) := by
  obtain ⟨ua, uc, rfl, _⟩ := id hu
  obtain ⟨_, _, e, hlc, hnone, hcm⟩ := h.slice
  cases e
  have hpos : 0 < M.length := List.length_pos_iff.2 hM
  have hiI : (i : Int) ≤ (L.length : Int) := by omega
  have hcI : (L.length : Int) ≤ (cap : Int) := by omega
  have hslice : ∃ v, ∀ wx : World, (Instr.slice 26 (.slice a L.length cap) (some (.int .i64 (i : Int))) (some (.int .i64 (L.length : Int))) none).run Try.prog wx = .ok v wx := by
    obtain ⟨i0, hi0, _, hzs, _⟩ := enTy_ok.parts
    refine ⟨sliced a i L.length cap 4, fun wx => ?_⟩
    have h := run_slice_lh (P := Try.prog) wx 26 a L.length cap (by have := enTy_ok.elem; have h2 := enTy_ok.under; rw [show Try.prog.elem 26 = 49 from this]; exact h2) .i64 .i64 (i : Int) (L.length : Int) (by omega) (by omega) (by omega)
    rw [h, show Try.prog.elem 26 = 49 from enTy_ok.elem]
    simp [sizeOf, typeInfo, show Try.prog.info? 49 = some i0 from hi0, show i0.size = 4 from hzs, Result.andThen]
  obtain ⟨v0, l0⟩ := hslice
  by_cases e1 : i = L.length
  · subst e1
    have HI := hid (plInsert_any h hu hM hl)
    rw [List.take_of_length_le (Nat.le_refl _)]
    clear h hu hnone hM hi
    go_enter Try.func56, Try.ntmps56
    go_wp2_with (go_at_call 64; (with_reducible refine HI.out.mono ?_); rintro e w1 hp; obtain ⟨a1, c1, rfl⟩ : ∃ a1 c1, e = .returned (.slice a1 (L.length + M.length) c1) := (by obtain ⟨a1, c1, he, -⟩ := hp; rw [List.length_append] at he; exact ⟨a1, c1, he⟩); have HF := hid hp; clear hp)
    go_ret
    exact HF.out
  have hil : i < L.length := by omega
  have q1 : ((i : Int) == (L.length : Int)) = false := beq_false_of_ne (by omega)
  have hcut := h.cut enTy_ok (k := i) (by omega)
  have htl : (L.take i).length = i := by rw [List.length_take]; omega
  have l1 : ∀ wx : World, (Instr.slice 26 (.slice a L.length cap) none (some (.int .i64 (i : Int))) none).run Try.prog wx = .ok (.slice a i cap) wx := fun wx => run_to enTy_ok wx a L.length cap i (by omega) hnone
  by_cases e2 : i + M.length < L.length
  · rcases h.2 with ⟨hv, hz⟩ | ⟨g, cap', cur, hv, _⟩
    · omega
    cases hv
    obtain ⟨w1, e3, hro, hch⟩ := (show ROwn enTy w (.slice (some ⟨g, 0, none⟩) (L.take i).length cap) (L.take i) by rw [htl]; exact hcut).appFits enTy_ok hu hM (by omega) 26
    rw [htl] at e3 hro
    have hml : (L.take i ++ M).length = i + M.length := by rw [List.length_append, htl]
    obtain ⟨w2, hcl, hro2, hch2⟩ := (show ROwn enTy w1 (.slice (some ⟨g, 0, none⟩) (L.take i ++ M).length cap) (L.take i ++ M) by rw [hml]; exact hro).clear enTy_ok enTy_z (n := L.length - (i + M.length)) (by omega) (by omega)
    rw [hml] at hcl hro2
    have HF : Hid (RepPost w (.slice (some ⟨g, 0, none⟩) L.length cap) (L.take i ++ M) (.returned (.slice (some ⟨g, 0, none⟩) (i + M.length) cap)) w2) := hid ⟨_, _, by rw [hml], by rw [hml]; exact hro2, (hch.trans hch2 (fun b e => .inl e)).mono (fun b e => by rw [e]; rfl), fun b e => .inl e⟩
    have l2 : ∀ wx : World, (Instr.slice 26 (.slice (some ⟨g, 0, none⟩) L.length cap) (some (.int .i64 ((i + M.length : Nat) : Int))) none none).run Try.prog wx = .ok (.slice (some ⟨g, (i + M.length) * 4, none⟩) (L.length - (i + M.length)) (cap - (i + M.length))) wx := fun wx => run_tail enTy_ok wx g L.length cap (i + M.length) (by omega) hlc
    have hcl2 : ∀ ty, (Builtin.clear_ #[26] ty #[.slice (some ⟨g, (i + M.length) * 4, none⟩) (L.length - (i + M.length)) (cap - (i + M.length))]).run Try.prog w1 = .ok (.tuple #[]) w2 := fun ty => hcl ty _
    have E3 := hid e3
    have q2 : ((i + M.length : Nat) : Int) < (L.length : Int) := by omega
    clear h hu hnone hM hcut hcl hro hro2 hch hch2 e3 htl hml
    generalize L.length - (i + M.length) = m1 at *
    generalize cap - (i + M.length) = m2 at *
    generalize i + M.length = m3 at *
    go_enter Try.func56, Try.ntmps56
    go_wp2_with (at_builtin; refine wpList_append_at E3.out (by with_reducible rfl) rfl _ _ rfl rfl rfl rfl ?_)
    go_ret
    exact HF.out
  · obtain ⟨a', c', w1, e3, hp⟩ := rep_app (show ROwn enTy w (.slice a (L.take i).length cap) (L.take i) by rw [htl]; exact hcut) hu (by omega)
    rw [htl] at e3 hp
    have HF : Hid (RepPost w (.slice a L.length cap) (L.take i ++ M) (.returned (.slice a' (i + M.length) c')) w1) := hid (by
      obtain ⟨x1, x2, x3, x4, x5, x6⟩ := hp
      exact ⟨x1, x2, x3, x4, ⟨x5.os, x5.tape, x5.output, x5.size, fun b hb hn => x5.block b hb (fun e => hn (by cases a <;> exact e))⟩, fun b e => by
        rcases x6 b e with k | k
        · exact .inl (by cases a <;> exact k)
        · exact .inr k⟩)
    have E3 := hid e3
    have q2 : (L.length : Int) ≤ ((i + M.length : Nat) : Int) := by omega
    clear h hu hnone hM hcut e3 htl hp
    generalize i + M.length = m3 at *
    go_enter Try.func56, Try.ntmps56
    go_wp2_with (at_builtin; refine wpList_append_at E3.out (by with_reducible rfl) rfl _ _ rfl rfl rfl rfl ?_)
    go_ret
    exact HF.out
end Go.Proofs.Ytiffdhihhggkhaa
