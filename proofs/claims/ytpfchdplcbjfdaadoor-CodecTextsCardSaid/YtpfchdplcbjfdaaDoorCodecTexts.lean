/-
  LAYER 1, the law CodecTexts: texts and bools are written, and read or refused, as the document says. No condition but the table that the row lists.
-/
import Derived.Test.YtpfchdplcbjfdaaDoorShown1
import Derived.Test.YtpfchdplcbjfdaaDoorLaid1
namespace Go.Proofs.YtpfchdplcbjfdaaDoor
open Go.RowKit
set_option linter.unusedVariables false


set_option maxHeartbeats 4000000 in
set_option maxRecDepth 100000 in
theorem codecTexts_walk (a b s : ByteArray) (c : Bool) (w : World) (hT : Steps w) (h0 : 0 < w.heap.size) (ha : a.size ≤ maxLen) (hb : b.size ≤ maxLen) (hs : s.size ≤ maxLen) :
    Calls Tryd.prog 4 #[.string a, .string b, .string s, .bool c] w fun e w' => e = .returned (.bool true) ∧ Below w.heap.size w w' := by
  have HSH := hid (shown_any w hT h0)
  by_cases hlong : 3000 < a.size ∨ 3000 < b.size ∨ 3000 < s.size
  · unfold maxLen at *
    rcases hlong with hlong | hlong | hlong
    · go_enter Tryd.func4, Tryd.ntmps4
      go_wp2_with (go_at_call 11; (with_reducible refine HSH.out.mono ?_); rintro e w1 ⟨rfl, hb1⟩)
      go_ret
      exact ⟨rfl, hb1⟩
    · by_cases h1 : 3000 < a.size
      all_goals
        go_enter Tryd.func4, Tryd.ntmps4
        go_wp2_with (go_at_call 11; (with_reducible refine HSH.out.mono ?_); rintro e w1 ⟨rfl, hb1⟩)
        go_ret
        exact ⟨rfl, hb1⟩
    · by_cases h1 : 3000 < a.size
      · go_enter Tryd.func4, Tryd.ntmps4
        go_wp2_with (go_at_call 11; (with_reducible refine HSH.out.mono ?_); rintro e w1 ⟨rfl, hb1⟩)
        go_ret
        exact ⟨rfl, hb1⟩
      · by_cases h2 : 3000 < b.size
        all_goals
          go_enter Tryd.func4, Tryd.ntmps4
          go_wp2_with (go_at_call 11; (with_reducible refine HSH.out.mono ?_); rintro e w1 ⟨rfl, hb1⟩)
          go_ret
          exact ⟨rfl, hb1⟩
  · have hla : a.size ≤ 3000 := by omega
    have hlb : b.size ≤ 3000 := by omega
    have hls : s.size ≤ 3000 := by omega
    have hI := fun w => toText_any s w hs
    have hR := fun w => refToText_any s w hs
    have hint : ∃ (x r : ByteArray) (o : Bool), textRes (toText s.data.toList) = .tuple #[.string x, .string r, .bool o] := by
      cases toText s.data.toList with
      | none => exact ⟨_, _, _, rfl⟩
      | some x => exact ⟨_, _, _, rfl⟩
    obtain ⟨x, r, o, hint⟩ := hint
    rw [hint] at hI hR
    have hB := fun w => toBool_any s w hs
    have hC := fun w => refToBool_any s w hs
    have hboo : ∃ (x : Bool) (r : ByteArray) (o : Bool), boolRes s.data.toList = .tuple #[.bool x, .string r, .bool o] := by
      cases s.data.toList with
      | nil => exact ⟨_, _, _, rfl⟩
      | cons c l => rw [boolRes_cons]; split <;> exact ⟨_, _, _, rfl⟩
    obtain ⟨x2, r2, o2, hboo⟩ := hboo
    rw [hboo] at hB hC
    have HI := hid hI
    have HR := hid hR
    have HB := hid hB
    have HC := hid hC
    have HN := hid (fun w => refText_any a w (by omega))
    have HM := hid (fun w => refText_any b w (by omega))
    have hsz1 : (mk (txt a.data.toList)).size ≤ 4000 := by rw [mk_size]; have := txt_length a (by omega); omega
    have hsz2 : (mk (txt b.data.toList)).size ≤ 4000 := by rw [mk_size]; have := txt_length b (by omega); omega
    have hint2 : ∀ w : World, Calls Tryd.prog 20 #[.slice (some ⟨w.heap.size, 0, none⟩) 2 2] (w.alloc (.cells #[.string a, .string b] 9)) fun e w' => e = .returned (.string (mk (txt a.data.toList) ++ mk (txt b.data.toList))) ∧ Below w.heap.size w w' := by
      intro w
      refine (textS_any (.slice (some ⟨w.heap.size, 0, none⟩) 2 2) [a, b] _ ⟨some ⟨w.heap.size, 0, none⟩, 2, rfl, fun _ => ⟨w.heap.size, 0, rfl, by simp, fun j x hj => ?_⟩⟩ ?_ ?_).mono fun e w' ⟨he, hb⟩ => ⟨?_, (Below.alloc (Below.refl _ _) (Nat.le_refl _) _).trans (hb.mono (by simp))⟩
      · rw [Lib.cell_of_heap (alloc_here w _ _)]
        match j, hj with
        | 0, hj | 1, hj => simp at hj; subst hj; rfl
        | j + 2, hj => simp at hj
      · intro k x hk
        have h1 := txt_length a (by omega)
        match k, hk with
        | 0, hk => simp at hk; subst hk; simp [txts]; omega
        | 1, hk => simp at hk; subst hk; simp [txts]; omega
        | k + 2, hk => simp at hk
      · simp
      · rw [mk_append]; rw [show txt a.data.toList ++ txt b.data.toList = txts [a, b] by simp [txts]]; exact he
    have HT2 := hid hint2
    have HB1 := hid (fun w => bool_any c w)
    have HB2 := hid (fun w => refBool_any c w)
    clear hI hR hint hint2 hB hC hboo hT
    unfold maxLen at *
    generalize mk (txt a.data.toList) = A at *
    generalize mk (txt b.data.toList) = B at *
    generalize ByteArray.mk #[if c = true then (1 : UInt8) else 0] = Z at *
    go_enter Tryd.func4, Tryd.ntmps4
    go_wp2_with (first
      | (go_at_call 11; (with_reducible refine HSH.out.mono ?_); rintro e w1 ⟨rfl, hb1⟩)
      | (go_at_call 16; (with_reducible refine (HI.out _).mono ?_); rintro e w2 ⟨rfl, hb2⟩; have hb2 := hb1.trans (hb2.mono hb1.size))
      | (go_at_call 17; (with_reducible refine (HR.out _).mono ?_); rintro e w3 ⟨rfl, hb3⟩; have hb3 := hb2.trans (hb3.mono hb2.size))
      | (go_at_call 18; (with_reducible refine (HB.out _).mono ?_); rintro e w4 ⟨rfl, hb4⟩; have hb4 := hb3.trans (hb4.mono hb3.size))
      | (go_at_call 19; (with_reducible refine (HC.out _).mono ?_); rintro e w5 ⟨rfl, hb5⟩; have hb5 := hb4.trans (hb5.mono hb4.size))
      | (go_at_call 20; (with_reducible refine (HT2.out _).mono ?_); rintro e w6 ⟨rfl, hb6⟩; have hb6 := hb5.trans (hb6.mono hb5.size))
      | (go_at_call 22; (with_reducible refine (HB1.out _).mono ?_); rintro e w9 ⟨rfl, rfl⟩)
      | (go_at_call 23; (with_reducible refine (HB2.out _).mono ?_); rintro e w9 ⟨rfl, rfl⟩)
      | (go_at_call 21; first
          | ((with_reducible refine (HN.out _).mono ?_); rintro e w7 ⟨rfl, hb7⟩; have hb7 := hb6.trans (hb7.mono hb6.size))
          | ((with_reducible refine (HM.out _).mono ?_); rintro e w8 ⟨rfl, hb8⟩; have hb8 := hb7.trans (hb8.mono hb7.size))))
    go_ret
    exact ⟨rfl, by assumption⟩

namespace rowCodecTexts
open Go.ChangeShapes Go.WideShapes Go.ChangeAt Go.RowKit
open Go.WideMaps Go.WideElems
open Go.ChangeMaps (open_string shut_string)
theorem contract (H : Type) (enc : TypeId × Value → H) (W : World) (base : Nat) (args : Array Value) (ds gs : List (DataW H)) (before : List MemPlace)
    (hval : ∀ (j : Nat) t v, Tryd.f4.params[j]? = some t → args[j]? = some v → Value.okWide Tryd.prog W .any base t v)
    (hW : DataW.Whole enc Tryd.prog Tryd.f4.params.toList Rows.codecTextsSpec.vars false W args.toList ds gs before) (hL : laidMetH Tryd.prog Rows.codecTextsRow.laid W) :
    Calls Tryd.prog 4 args W fun e W' => ∃ v, e = .returned v ∧ Rows.codecTextsSpec.post enc Tryd.prog Tryd.f4 false true false false W args v W' := by
  have hW' := hW
  obtain ⟨p, q, hA0, hV, rfl, hfz, hnd⟩ := hW
  have hlt := hW'.lt
  have hA : DataW.TrodAll enc Tryd.prog W 0 (fun _ => true) true Tryd.f4.params.toList args.toList ds p := hA0
  rw [Tryd.params4] at hA hval
  obtain ⟨v0, vs0, d0, ds0, p0, q0, hargs, rfl, rfl, h0, r0⟩ := trodAll_cons hA
  obtain ⟨v1, vs1, d1, ds1, p1, q1, rfl, rfl, rfl, h1, r1⟩ := trodAll_cons r0
  obtain ⟨v2, vs2, d2, ds2, p2, q2, rfl, rfl, rfl, h2, r2⟩ := trodAll_cons r1
  obtain ⟨v3, vs3, d3, ds3, p3, q3, rfl, rfl, rfl, h3, r3⟩ := trodAll_cons r2
  obtain ⟨rfl, rfl, rfl⟩ := trodAll_nil r3
  obtain rfl : args = #[v0, v1, v2, v3] := by cases args; simp_all
  obtain ⟨rfl, rfl⟩ := trodVars_none hV
  have hpost : ∀ W', Below W.heap.size W W' → Rows.codecTextsSpec.post enc Tryd.prog Tryd.f4 false true false false W #[v0, v1, v2, v3] (.bool true) W' := fun W' hb => law_post hW' hb rfl (by rw [Tryd.params4]; simp only [List.forall_mem_cons]; exact ⟨okTy (by kernel_rfl) (by kernel_rfl), okTy (by kernel_rfl) (by kernel_rfl), okTy (by kernel_rfl) (by kernel_rfl), okTy (by kernel_rfl) (by kernel_rfl), fun _ h => by cases h⟩) (by kernel_rfl) ⟨rfl, rfl, rfl⟩
  suffices hc : Calls Tryd.prog 4 #[v0, v1, v2, v3] W fun e W' => e = .returned (.bool true) ∧ Below W.heap.size W W' from hc.mono fun e W' ⟨he, hb⟩ => ⟨_, he, hpost W' hb⟩
  clear hpost
  obtain ⟨hS, h0W⟩ := steps_of hL
  obtain ⟨a0, rfl, rfl, rfl, w0⟩ := open_string Tryd.underlying9 (hval 0 9 v0 rfl rfl) h0
  obtain ⟨a1, rfl, rfl, rfl, w1⟩ := open_string Tryd.underlying9 (hval 1 9 v1 rfl rfl) h1
  obtain ⟨a2, rfl, rfl, rfl, w2⟩ := open_string Tryd.underlying9 (hval 2 9 v2 rfl rfl) h2
  obtain ⟨a3, rfl, rfl, rfl⟩ := open_bool Tryd.underlying4 (hval 3 4 v3 rfl rfl) h3
  exact codecTexts_walk a0 a1 a2 a3 W hS h0W w0 w1 w2

theorem laid_met (os : Os) : laidMet Tryd.prog Rows.codecTextsRow.laid ((laidWorld os).forCall (fun _ _ => 0) ⟨#[], #[.string ⟨#[]⟩, .string ⟨#[]⟩, .string ⟨#[]⟩, .bool false], []⟩).memory :=
  laidMet_of_run' 8 (by kernel_rfl) (by kernel_rfl)
theorem reads (os : Os) {H : Type} (enc : TypeId × Value → H) : ∃ places, DataW.whole enc Tryd.prog ((laidWorld os).forCall (fun _ _ => 0) ⟨#[], #[.string ⟨#[]⟩, .string ⟨#[]⟩, .string ⟨#[]⟩, .bool false], []⟩).memory Tryd.f4.params.toList Rows.codecTextsSpec.vars false (#[.string ⟨#[]⟩, .string ⟨#[]⟩, .string ⟨#[]⟩, .bool false] : Array Value).toList 8 = some ([.lit (.string []), .lit (.string []), .lit (.string []), .lit (.bool false)], [], places) :=
  ⟨[], by kernel_rfl⟩
set_option maxRecDepth 100000 in
theorem lifted (os : Os) (started : os.Started) (H : Type) (enc : TypeId × Value → H) (F : Stop.Interp) :
    ReturnsInHanded {} Tryd.checked os 4 .any ((OpenSpec.ofChange Rows.codecTextsSpec).preRow enc Tryd.prog Tryd.f4 Rows.codecTextsRow.domain false Rows.codecTextsRow.laid) (((OpenSpec.ofChange Rows.codecTextsSpec).at F).post enc Tryd.prog Tryd.f4 false true false false) := by
  obtain ⟨places, hx⟩ := reads os enc
  refine returnsInHanded_of_row (C := Tryd.checked) (s := OpenSpec.ofChange Rows.codecTextsSpec) own started (by kernel_rfl) Tryd.func4
    (witness_row_at (enc := enc) (C := Tryd.checked) false (laidWorld os) #[.string ⟨#[]⟩, .string ⟨#[]⟩, .string ⟨#[]⟩, .bool false] rfl (by kernel_rfl) (by kernel_rfl) (by kernel_rfl)
      (OpenSpec.preRow_of_cond 8 hx (by kernel_rfl) (fun k hk => by cases hk) (by kernel_rfl) (laid_met os))) ?_
  intro W base args ds gs before hval hW _ _ _ hL _ _
  exact contract H enc W base args ds gs before hval hW hL
theorem said : Rows.CodecTextsSaid :=
  OpenClaim.holds_of_cond 4 Tryd.f4 rfl rfl rfl rfl rfl rfl rfl ⟨rfl, rfl, rfl, rfl, rfl⟩ rfl rfl rfl rfl rfl (by kernel_rfl) Tryd.func4 (by kernel_rfl)
    (of_decide_eq_true (by kernel_rfl)) (by unfold Func.isWrapper; first | (rw [if_pos (by decide +kernel)]; kernel_rfl) | (rw [if_neg (by decide +kernel)]; exact ⟨rfl, rfl⟩))
    (fun os started H enc _ F => by rw [OpenClaim.pre_eq_preRow]; exact lifted os started H enc F)
theorem plain (f : FuncId) (fn : Func) (hf : Tryd.pinned.checked.prog.funcNamed "kiosk/kiosklaw1.CodecTexts" = some f) (hfn : Tryd.pinned.checked.prog.funcs[f]? = some fn) :
    false = Tryd.pinned.checked.prog.looks [] ∧ ∀ (j : Nat) t, fn.params[j]? = some t → Tryd.pinned.checked.prog.wantsStandIn t = false := by
  obtain rfl : f = 4 := Option.some.inj ((show Tryd.prog.funcNamed "kiosk/kiosklaw1.CodecTexts" = some 4 by kernel_rfl).symm.trans hf) |>.symm
  obtain rfl : fn = Tryd.f4 := (Option.some.inj (Tryd.func4.symm.trans hfn)).symm
  refine ⟨by kernel_rfl, fun j t ht => ?_⟩
  rw [Tryd.params4] at ht
  have hall : ∀ t ∈ ([9, 9, 9, 4] : List TypeId), Tryd.prog.wantsStandIn t = false := by simp only [List.forall_mem_cons]; exact ⟨(by kernel_rfl), (by kernel_rfl), (by kernel_rfl), (by kernel_rfl), fun _ h => by cases h⟩
  exact hall t (by simpa using Array.mem_of_getElem? ht)
theorem card : Rows.CodecTextsCardSaid :=
  Claim7.holds_tied_plain_at .later [] _ _ _ _ said (fun _ h => by cases h) (by kernel_rfl) (fun _ h => by cases h) codecTexts_row_tie rfl ⟨rfl, rfl⟩ (by kernel_rfl) rfl plain (by kernel_rfl)
end rowCodecTexts
end Go.Proofs.YtpfchdplcbjfdaaDoor
