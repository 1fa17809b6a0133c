/-
  LAYER 1, the law CodecNumbers: numbers are written, and read or refused, as the document says. No condition but the table that the row lists.
-/
import Derived.Test.YtpfchdplcbjfdaaDoorShown1
import Derived.Test.YtpfchdplcbjfdaaDoorLaid1
namespace Go.Proofs.YtpfchdplcbjfdaaDoor
open Go.RowKit
set_option linter.unusedVariables false


set_option maxHeartbeats 2000000 in
set_option maxRecDepth 100000 in
theorem codecNumbers_walk (n m : Int) (s : ByteArray) (w : World) (hT : Steps w) (h0 : 0 < w.heap.size) (hn : -9223372036854775808 ≤ n ∧ n ≤ 9223372036854775807) (hm : -9223372036854775808 ≤ m ∧ m ≤ 9223372036854775807) (hs : s.size ≤ maxLen) :
    Calls Tryd.prog 3 #[.int .i64 n, .int .i64 m, .string s] w fun e w' => e = .returned (.bool true) ∧ Below w.heap.size w w' := by
  have HSH := hid (shown_any w hT h0)
  by_cases hlong : 3000 < s.size
  · go_enter Tryd.func3, Tryd.ntmps3
    go_wp2_with (go_at_call 11; (with_reducible refine HSH.out.mono ?_); rintro e w1 ⟨rfl, hb1⟩)
    go_ret
    exact ⟨rfl, hb1⟩
  · have hI := fun w => toInt_any s w hs
    have hR := fun w => refToInt_any s w hs
    have hint : ∃ (a : Int) (r : ByteArray) (b : Bool), intRes (toInt s.data.toList) = .tuple #[.int .i64 a, .string r, .bool b] := by
      cases toInt s.data.toList with
      | none => exact ⟨_, _, _, rfl⟩
      | some x => exact ⟨_, _, _, rfl⟩
    obtain ⟨a, r, b, hint⟩ := hint
    rw [hint] at hI hR
    have HI := hid hI
    have HR := hid hR
    have HN := hid (fun w => refInt_any n w hn.1 hn.2)
    have HM := hid (fun w => refInt_any m w hm.1 hm.2)
    have hint2 : ∀ w : World, Calls Tryd.prog 14 #[.slice (some ⟨w.heap.size, 0, none⟩) 2 2] (w.alloc (.cells #[.int .i64 n, .int .i64 m] 3)) fun e w' => e = .returned (.string (mk (enc (nat64 n)) ++ mk (enc (nat64 m)))) ∧ Below w.heap.size w w' := by
      intro w
      refine (int_any (.slice (some ⟨w.heap.size, 0, none⟩) 2 2) [n, m] _ ⟨some ⟨w.heap.size, 0, none⟩, 2, rfl, fun _ => ⟨w.heap.size, 0, rfl, by simp, fun j x hj => ?_⟩⟩ ?_ ?_).mono fun e w' ⟨he, hb⟩ => ⟨?_, (Below.alloc (Below.refl _ _) (Nat.le_refl _) _).trans (hb.mono (by simp))⟩
      · rw [Lib.cell_of_heap (alloc_here w _ _)]
        match j, hj with
        | 0, hj | 1, hj => simp at hj; subst hj; rfl
        | j + 2, hj => simp at hj
      · intro x hx; simp at hx; omega
      · simp
      · rw [mk_append]; rw [show enc (nat64 n) ++ enc (nat64 m) = encs [n, m] by simp [encs]]; exact he
    have HI2 := hid hint2
    have hsz1 : (mk (enc (nat64 n))).size ≤ 10 := by rw [mk_size]; exact enc_length (nat64_lt hn.1 hn.2)
    have hsz2 : (mk (enc (nat64 m))).size ≤ 10 := by rw [mk_size]; exact enc_length (nat64_lt hm.1 hm.2)
    clear hI hR hint hint2
    change Hid (∀ w : World, Calls Tryd.prog 15 #[.int .i64 n] w fun e w' => e = .returned (.string (mk (enc (nat64 n)))) ∧ Below w.heap.size w w') at HN
    change Hid (∀ w : World, Calls Tryd.prog 15 #[.int .i64 m] w fun e w' => e = .returned (.string (mk (enc (nat64 m)))) ∧ Below w.heap.size w w') at HM
    generalize mk (enc (nat64 n)) = A at *
    generalize mk (enc (nat64 m)) = B at *
    go_enter Tryd.func3, Tryd.ntmps3
    go_wp2_with (first
      | (go_at_call 11; (with_reducible refine HSH.out.mono ?_); rintro e w1 ⟨rfl, hb1⟩)
      | (go_at_call 12; (with_reducible refine (HI.out _).mono ?_); rintro e w2 ⟨rfl, hm2⟩; have hb2 : Below w.heap.size w w2 := (by obtain ⟨k, rfl⟩ := hm2; exact below_drew hb1 _); clear hm2)
      | (go_at_call 13; (with_reducible refine (HR.out _).mono ?_); rintro e w3 ⟨rfl, hb3⟩; have hb3 := hb2.trans (hb3.mono hb2.size))
      | (go_at_call 14; (with_reducible refine (HI2.out _).mono ?_); rintro e w4 ⟨rfl, hb4⟩; have hb4 := hb3.trans (hb4.mono hb3.size))
      | (go_at_call 15; first
          | ((with_reducible refine (HN.out _).mono ?_); rintro e w5 ⟨rfl, hb5⟩; have hb5 := hb4.trans (hb5.mono hb4.size))
          | ((with_reducible refine (HM.out _).mono ?_); rintro e w6 ⟨rfl, hb6⟩; have hb6 := hb5.trans (hb6.mono hb5.size))))
    go_ret
    exact ⟨rfl, hb6⟩

namespace rowCodecNumbers
open Go.ChangeShapes Go.WideShapes Go.ChangeAt Go.RowKit
open Go.WideMaps Go.WideElems
open Go.ChangeMaps (open_string shut_string)
theorem contract (H : Type) (enc : TypeId × Value → H) (W : World) (base : Nat) (args : Array Value) (ds gs : List (DataW H)) (before : List MemPlace)
    (hval : ∀ (j : Nat) t v, Tryd.f3.params[j]? = some t → args[j]? = some v → Value.okWide Tryd.prog W .any base t v)
    (hW : DataW.Whole enc Tryd.prog Tryd.f3.params.toList Rows.codecNumbersSpec.vars false W args.toList ds gs before) (hL : laidMetH Tryd.prog Rows.codecNumbersRow.laid W) :
    Calls Tryd.prog 3 args W fun e W' => ∃ v, e = .returned v ∧ Rows.codecNumbersSpec.post enc Tryd.prog Tryd.f3 false true false false W args v W' := by
  have hW' := hW
  obtain ⟨p, q, hA0, hV, rfl, hfz, hnd⟩ := hW
  have hlt := hW'.lt
  have hA : DataW.TrodAll enc Tryd.prog W 0 (fun _ => true) true Tryd.f3.params.toList args.toList ds p := hA0
  rw [Tryd.params3] at hA hval
  obtain ⟨v0, vs0, d0, ds0, p0, q0, hargs, rfl, rfl, h0, r0⟩ := trodAll_cons hA
  obtain ⟨v1, vs1, d1, ds1, p1, q1, rfl, rfl, rfl, h1, r1⟩ := trodAll_cons r0
  obtain ⟨v2, vs2, d2, ds2, p2, q2, rfl, rfl, rfl, h2, r2⟩ := trodAll_cons r1
  obtain ⟨rfl, rfl, rfl⟩ := trodAll_nil r2
  obtain rfl : args = #[v0, v1, v2] := by cases args; simp_all
  obtain ⟨rfl, rfl⟩ := trodVars_none hV
  have hpost : ∀ W', Below W.heap.size W W' → Rows.codecNumbersSpec.post enc Tryd.prog Tryd.f3 false true false false W #[v0, v1, v2] (.bool true) W' := fun W' hb => law_post hW' hb rfl (by rw [Tryd.params3]; simp only [List.forall_mem_cons]; exact ⟨okTy (by kernel_rfl) (by kernel_rfl), okTy (by kernel_rfl) (by kernel_rfl), okTy (by kernel_rfl) (by kernel_rfl), fun _ h => by cases h⟩) (by kernel_rfl) ⟨rfl, rfl, rfl⟩
  suffices hc : Calls Tryd.prog 3 #[v0, v1, v2] W fun e W' => e = .returned (.bool true) ∧ Below W.heap.size W W' from hc.mono fun e W' ⟨he, hb⟩ => ⟨_, he, hpost W' hb⟩
  clear hpost
  obtain ⟨hS, h0W⟩ := steps_of hL
  obtain ⟨a0, rfl, rfl, rfl, w0⟩ := open_int Tryd.underlying3 (hval 0 3 v0 rfl rfl) h0
  obtain ⟨a1, rfl, rfl, rfl, w1⟩ := open_int Tryd.underlying3 (hval 1 3 v1 rfl rfl) h1
  obtain ⟨a2, rfl, rfl, rfl, w2⟩ := open_string Tryd.underlying9 (hval 2 9 v2 rfl rfl) h2
  have b0 : -9223372036854775808 ≤ a0 ∧ a0 ≤ 9223372036854775807 := by simpa [Lit.wf, IntKind.min, IntKind.max, IntKind.signed, IntKind.bits] using w0
  have b1 : -9223372036854775808 ≤ a1 ∧ a1 ≤ 9223372036854775807 := by simpa [Lit.wf, IntKind.min, IntKind.max, IntKind.signed, IntKind.bits] using w1
  exact codecNumbers_walk a0 a1 a2 W hS h0W b0 b1 w2

theorem laid_met (os : Os) : laidMet Tryd.prog Rows.codecNumbersRow.laid ((laidWorld os).forCall (fun _ _ => 0) ⟨#[], #[.int .i64 0, .int .i64 0, .string ⟨#[]⟩], []⟩).memory :=
  laidMet_of_run' 8 (by kernel_rfl) (by kernel_rfl)
theorem reads (os : Os) {H : Type} (enc : TypeId × Value → H) : ∃ places, DataW.whole enc Tryd.prog ((laidWorld os).forCall (fun _ _ => 0) ⟨#[], #[.int .i64 0, .int .i64 0, .string ⟨#[]⟩], []⟩).memory Tryd.f3.params.toList Rows.codecNumbersSpec.vars false (#[.int .i64 0, .int .i64 0, .string ⟨#[]⟩] : Array Value).toList 8 = some ([.lit (.int .i64 0), .lit (.int .i64 0), .lit (.string [])], [], places) :=
  ⟨[], by kernel_rfl⟩
set_option maxRecDepth 100000 in
theorem lifted (os : Os) (started : os.Started) (H : Type) (enc : TypeId × Value → H) (F : Stop.Interp) :
    ReturnsInHanded {} Tryd.checked os 3 .any ((OpenSpec.ofChange Rows.codecNumbersSpec).preRow enc Tryd.prog Tryd.f3 Rows.codecNumbersRow.domain false Rows.codecNumbersRow.laid) (((OpenSpec.ofChange Rows.codecNumbersSpec).at F).post enc Tryd.prog Tryd.f3 false true false false) := by
  obtain ⟨places, hx⟩ := reads os enc
  refine returnsInHanded_of_row (C := Tryd.checked) (s := OpenSpec.ofChange Rows.codecNumbersSpec) own started (by kernel_rfl) Tryd.func3
    (witness_row_at (enc := enc) (C := Tryd.checked) false (laidWorld os) #[.int .i64 0, .int .i64 0, .string ⟨#[]⟩] rfl (by kernel_rfl) (by kernel_rfl) (by kernel_rfl)
      (OpenSpec.preRow_of_cond 8 hx (by kernel_rfl) (fun k hk => by cases hk) (by kernel_rfl) (laid_met os))) ?_
  intro W base args ds gs before hval hW _ _ _ hL _ _
  exact contract H enc W base args ds gs before hval hW hL
theorem said : Rows.CodecNumbersSaid :=
  OpenClaim.holds_of_cond 3 Tryd.f3 rfl rfl rfl rfl rfl rfl rfl ⟨rfl, rfl, rfl, rfl, rfl⟩ rfl rfl rfl rfl rfl (by kernel_rfl) Tryd.func3 (by kernel_rfl)
    (of_decide_eq_true (by kernel_rfl)) (by unfold Func.isWrapper; first | (rw [if_pos (by decide +kernel)]; kernel_rfl) | (rw [if_neg (by decide +kernel)]; exact ⟨rfl, rfl⟩))
    (fun os started H enc _ F => by rw [OpenClaim.pre_eq_preRow]; exact lifted os started H enc F)
theorem plain (f : FuncId) (fn : Func) (hf : Tryd.pinned.checked.prog.funcNamed "kiosk/kiosklaw1.CodecNumbers" = some f) (hfn : Tryd.pinned.checked.prog.funcs[f]? = some fn) :
    false = Tryd.pinned.checked.prog.looks [] ∧ ∀ (j : Nat) t, fn.params[j]? = some t → Tryd.pinned.checked.prog.wantsStandIn t = false := by
  obtain rfl : f = 3 := Option.some.inj ((show Tryd.prog.funcNamed "kiosk/kiosklaw1.CodecNumbers" = some 3 by kernel_rfl).symm.trans hf) |>.symm
  obtain rfl : fn = Tryd.f3 := (Option.some.inj (Tryd.func3.symm.trans hfn)).symm
  refine ⟨by kernel_rfl, fun j t ht => ?_⟩
  rw [Tryd.params3] at ht
  have hall : ∀ t ∈ ([3, 3, 9] : List TypeId), Tryd.prog.wantsStandIn t = false := by simp only [List.forall_mem_cons]; exact ⟨(by kernel_rfl), (by kernel_rfl), (by kernel_rfl), fun _ h => by cases h⟩
  exact hall t (by simpa using Array.mem_of_getElem? ht)
theorem card : Rows.CodecNumbersCardSaid :=
  Claim7.holds_tied_plain_at .later [] _ _ _ _ said (fun _ h => by cases h) (by kernel_rfl) (fun _ h => by cases h) codecNumbers_row_tie rfl ⟨rfl, rfl⟩ (by kernel_rfl) rfl plain (by kernel_rfl)
end rowCodecNumbers
end Go.Proofs.YtpfchdplcbjfdaaDoor
