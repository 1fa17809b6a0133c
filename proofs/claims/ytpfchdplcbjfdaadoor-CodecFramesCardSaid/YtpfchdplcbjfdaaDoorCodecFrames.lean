/-
  LAYER 1, the law CodecFrames: a sum, a frame, and what is read of bytes as one, are as the document says. No condition but the table that the row lists.
-/
import Derived.Test.YtpfchdplcbjfdaaDoorShown1
import Derived.Test.YtpfchdplcbjfdaaDoorLaid1
namespace Go.Proofs.YtpfchdplcbjfdaaDoor
open Go.RowKit
set_option linter.unusedVariables false


/-- What Frame returns. -/
def frameRes (s : ByteArray) : ByteArray × Int := if s.size ≤ 65536 then (mk (frameL s.data.toList), 0) else (⟨#[]⟩, 10)
theorem frameBoth (s : ByteArray) (hs : s.size ≤ maxLen) (w : World) (hT : Steps w) (h0 : 0 < w.heap.size) :
    Calls Tryd.prog 24 #[.string s] w fun e w' => e = .returned (.tuple #[.string (frameRes s).1, .int .i64 (frameRes s).2]) ∧ Below w.heap.size w w' := by
  unfold frameRes
  by_cases h : s.size ≤ 65536
  · rw [if_pos h]; exact frame_any s w h hT h0
  · rw [if_neg h]; exact (frame_long s w (by omega) hs).mono fun e w' ⟨he, hw⟩ => ⟨he, hw ▸ Below.refl _ _⟩
theorem refFrameBoth (s : ByteArray) (hs : s.size ≤ maxLen) (w : World) :
    Calls Tryd.prog 25 #[.string s] w fun e w' => e = .returned (.tuple #[.string (frameRes s).1, .int .i64 (frameRes s).2]) ∧ Below w.heap.size w w' := by
  unfold frameRes
  by_cases h : s.size ≤ 65536
  · rw [if_pos h]; exact refFrame_any s w h
  · rw [if_neg h]; exact (refFrame_long s w (by omega) hs).mono fun e w' ⟨he, hw⟩ => ⟨he, hw ▸ Below.refl _ _⟩

set_option maxHeartbeats 4000000 in
set_option maxRecDepth 100000 in
theorem codecFrames_walk (s t : ByteArray) (w : World) (hT : Steps w) (h0 : 0 < w.heap.size) (hs : s.size ≤ maxLen) (ht : t.size ≤ maxLen) :
    Calls Tryd.prog 5 #[.string s, .string t] w fun e w' => e = .returned (.bool true) ∧ Below w.heap.size w w' := by
  have HSH := hid (shown_any w hT h0)
  by_cases hlong : 70000 < s.size
  · unfold maxLen at *
    go_enter Tryd.func5, Tryd.ntmps5
    go_wp2_with (go_at_call 11; (with_reducible refine HSH.out.mono ?_); rintro e w1 ⟨rfl, hb1⟩)
    go_ret
    exact ⟨rfl, hb1⟩
  · by_cases hlt : 3000 < t.size
    · unfold maxLen at *
      go_enter Tryd.func5, Tryd.ntmps5
      go_wp2_with (go_at_call 11; (with_reducible refine HSH.out.mono ?_); rintro e w1 ⟨rfl, hb1⟩)
      go_ret
      exact ⟨rfl, hb1⟩
    · have HF := hid (fun w h1 h2 => frameBoth s hs w h1 h2)
      have HRF := hid (fun w => refFrameBoth s hs w)
      have HU := hid (fun w h1 => unframe_any t w ht h1)
      have HRU := hid (fun w => refUnframe_any t w ht)
      have HC := hid (fun w h1 => crc_any t w ht h1)
      have HRC := hid (fun w => refCrc_any t w ht)
      unfold unfrRes at HU HRU
      unfold maxLen at *
      generalize (frameRes s).1 = F at *
      generalize (frameRes s).2 = E at *
      generalize mk (unframe t.data.toList).1 = U1 at *
      generalize ((unframe t.data.toList).2.1 : Int) = U2 at *
      generalize ((unframe t.data.toList).2.2 : Int) = U3 at *
      generalize ((crc t.data.toList : Nat) : Int) = C at *
      go_enter Tryd.func5, Tryd.ntmps5
      go_wp2_with (first
        | (go_at_call 11; (with_reducible refine HSH.out.mono ?_); rintro e w1 ⟨rfl, hb1⟩)
        | (go_at_call 24; (with_reducible refine (HF.out _ (hT.below hb1 h0) (by have := hb1.size; omega)).mono ?_); rintro e w2 ⟨rfl, hb2⟩; have hb2 := hb1.trans (hb2.mono hb1.size))
        | (go_at_call 25; (with_reducible refine (HRF.out _).mono ?_); rintro e w3 ⟨rfl, hb3⟩; have hb3 := hb2.trans (hb3.mono hb2.size))
        | (go_at_call 26; (with_reducible refine (HU.out _ (hT.below hb3 h0)).mono ?_); rintro e w4 ⟨rfl, hb4⟩; have hb4 := hb3.trans (hb4.mono hb3.size))
        | (go_at_call 27; (with_reducible refine (HRU.out _).mono ?_); rintro e w5 ⟨rfl, hb5⟩; have hb5 := hb4.trans (hb5.mono hb4.size))
        | (go_at_call 28; (with_reducible refine (HC.out _ (hT.below hb5 h0)).mono ?_); rintro e w6 ⟨rfl, rfl⟩)
        | (go_at_call 29; (with_reducible refine (HRC.out _).mono ?_); rintro e w7 ⟨rfl, rfl⟩))
      go_ret
      exact ⟨rfl, hb5⟩

namespace rowCodecFrames
open Go.ChangeShapes Go.WideShapes Go.ChangeAt Go.RowKit
open Go.WideMaps Go.WideElems
open Go.ChangeMaps (open_string shut_string)
theorem contract (H : Type) (enc : TypeId × Value → H) (W : World) (base : Nat) (args : Array Value) (ds gs : List (DataW H)) (before : List MemPlace)
    (hval : ∀ (j : Nat) t v, Tryd.f5.params[j]? = some t → args[j]? = some v → Value.okWide Tryd.prog W .any base t v)
    (hW : DataW.Whole enc Tryd.prog Tryd.f5.params.toList Rows.codecFramesSpec.vars false W args.toList ds gs before) (hL : laidMetH Tryd.prog Rows.codecFramesRow.laid W) :
    Calls Tryd.prog 5 args W fun e W' => ∃ v, e = .returned v ∧ Rows.codecFramesSpec.post enc Tryd.prog Tryd.f5 false true false false W args v W' := by
  have hW' := hW
  obtain ⟨p, q, hA0, hV, rfl, hfz, hnd⟩ := hW
  have hlt := hW'.lt
  have hA : DataW.TrodAll enc Tryd.prog W 0 (fun _ => true) true Tryd.f5.params.toList args.toList ds p := hA0
  rw [Tryd.params5] at hA hval
  obtain ⟨v0, vs0, d0, ds0, p0, q0, hargs, rfl, rfl, h0, r0⟩ := trodAll_cons hA
  obtain ⟨v1, vs1, d1, ds1, p1, q1, rfl, rfl, rfl, h1, r1⟩ := trodAll_cons r0
  obtain ⟨rfl, rfl, rfl⟩ := trodAll_nil r1
  obtain rfl : args = #[v0, v1] := by cases args; simp_all
  obtain ⟨rfl, rfl⟩ := trodVars_none hV
  have hpost : ∀ W', Below W.heap.size W W' → Rows.codecFramesSpec.post enc Tryd.prog Tryd.f5 false true false false W #[v0, v1] (.bool true) W' := fun W' hb => law_post hW' hb rfl (by rw [Tryd.params5]; simp only [List.forall_mem_cons]; exact ⟨okTy (by kernel_rfl) (by kernel_rfl), okTy (by kernel_rfl) (by kernel_rfl), fun _ h => by cases h⟩) (by kernel_rfl) ⟨rfl, rfl, rfl⟩
  suffices hc : Calls Tryd.prog 5 #[v0, v1] W fun e W' => e = .returned (.bool true) ∧ Below W.heap.size W W' from hc.mono fun e W' ⟨he, hb⟩ => ⟨_, he, hpost W' hb⟩
  clear hpost
  obtain ⟨hS, h0W⟩ := steps_of hL
  obtain ⟨a0, rfl, rfl, rfl, w0⟩ := open_string Tryd.underlying9 (hval 0 9 v0 rfl rfl) h0
  obtain ⟨a1, rfl, rfl, rfl, w1⟩ := open_string Tryd.underlying9 (hval 1 9 v1 rfl rfl) h1
  exact codecFrames_walk a0 a1 W hS h0W w0 w1

theorem laid_met (os : Os) : laidMet Tryd.prog Rows.codecFramesRow.laid ((laidWorld os).forCall (fun _ _ => 0) ⟨#[], #[.string ⟨#[]⟩, .string ⟨#[]⟩], []⟩).memory :=
  laidMet_of_run' 8 (by kernel_rfl) (by kernel_rfl)
theorem reads (os : Os) {H : Type} (enc : TypeId × Value → H) : ∃ places, DataW.whole enc Tryd.prog ((laidWorld os).forCall (fun _ _ => 0) ⟨#[], #[.string ⟨#[]⟩, .string ⟨#[]⟩], []⟩).memory Tryd.f5.params.toList Rows.codecFramesSpec.vars false (#[.string ⟨#[]⟩, .string ⟨#[]⟩] : Array Value).toList 8 = some ([.lit (.string []), .lit (.string [])], [], places) :=
  ⟨[], by kernel_rfl⟩
set_option maxRecDepth 100000 in
theorem lifted (os : Os) (started : os.Started) (H : Type) (enc : TypeId × Value → H) (F : Stop.Interp) :
    ReturnsInHanded {} Tryd.checked os 5 .any ((OpenSpec.ofChange Rows.codecFramesSpec).preRow enc Tryd.prog Tryd.f5 Rows.codecFramesRow.domain false Rows.codecFramesRow.laid) (((OpenSpec.ofChange Rows.codecFramesSpec).at F).post enc Tryd.prog Tryd.f5 false true false false) := by
  obtain ⟨places, hx⟩ := reads os enc
  refine returnsInHanded_of_row (C := Tryd.checked) (s := OpenSpec.ofChange Rows.codecFramesSpec) own started (by kernel_rfl) Tryd.func5
    (witness_row_at (enc := enc) (C := Tryd.checked) false (laidWorld os) #[.string ⟨#[]⟩, .string ⟨#[]⟩] rfl (by kernel_rfl) (by kernel_rfl) (by kernel_rfl)
      (OpenSpec.preRow_of_cond 8 hx (by kernel_rfl) (fun k hk => by cases hk) (by kernel_rfl) (laid_met os))) ?_
  intro W base args ds gs before hval hW _ _ _ hL _ _
  exact contract H enc W base args ds gs before hval hW hL
theorem said : Rows.CodecFramesSaid :=
  OpenClaim.holds_of_cond 5 Tryd.f5 rfl rfl rfl rfl rfl rfl rfl ⟨rfl, rfl, rfl, rfl, rfl⟩ rfl rfl rfl rfl rfl (by kernel_rfl) Tryd.func5 (by kernel_rfl)
    (of_decide_eq_true (by kernel_rfl)) (by unfold Func.isWrapper; first | (rw [if_pos (by decide +kernel)]; kernel_rfl) | (rw [if_neg (by decide +kernel)]; exact ⟨rfl, rfl⟩))
    (fun os started H enc _ F => by rw [OpenClaim.pre_eq_preRow]; exact lifted os started H enc F)
theorem plain (f : FuncId) (fn : Func) (hf : Tryd.pinned.checked.prog.funcNamed "kiosk/kiosklaw1.CodecFrames" = some f) (hfn : Tryd.pinned.checked.prog.funcs[f]? = some fn) :
    false = Tryd.pinned.checked.prog.looks [] ∧ ∀ (j : Nat) t, fn.params[j]? = some t → Tryd.pinned.checked.prog.wantsStandIn t = false := by
  obtain rfl : f = 5 := Option.some.inj ((show Tryd.prog.funcNamed "kiosk/kiosklaw1.CodecFrames" = some 5 by kernel_rfl).symm.trans hf) |>.symm
  obtain rfl : fn = Tryd.f5 := (Option.some.inj (Tryd.func5.symm.trans hfn)).symm
  refine ⟨by kernel_rfl, fun j t ht => ?_⟩
  rw [Tryd.params5] at ht
  have hall : ∀ t ∈ ([9, 9] : List TypeId), Tryd.prog.wantsStandIn t = false := by simp only [List.forall_mem_cons]; exact ⟨(by kernel_rfl), (by kernel_rfl), fun _ h => by cases h⟩
  exact hall t (by simpa using Array.mem_of_getElem? ht)
theorem card : Rows.CodecFramesCardSaid :=
  Claim7.holds_tied_plain_at .later [] _ _ _ _ said (fun _ h => by cases h) (by kernel_rfl) (fun _ h => by cases h) codecFrames_row_tie rfl ⟨rfl, rfl⟩ (by kernel_rfl) rfl plain (by kernel_rfl)
end rowCodecFrames
end Go.Proofs.YtpfchdplcbjfdaaDoor
