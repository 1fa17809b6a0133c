/-
  LAYER 2, the law DiskMoves: a file that is renamed has its bytes under the other name alone, and what was not synced is no safer. For every input.
-/
import Derived.Test.YtcinegkikahchaaDkOne
import Derived.Test.YtcinegkikahchaaDkArgs
import Derived.WalkLawsBesides
namespace Go.Proofs.Ytcinegkikahchaa
open Go.RowKit Go.Maps
set_option linter.unusedVariables false
set_option maxRecDepth 100000


def onL : List UInt8 := [111, 119, 110]
def otL : List UInt8 := [111, 116, 104, 101, 114]
theorem on_name : isName onL = true := by decide
theorem ot_name : isName otL = true := by decide
theorem on_ot : onL ≠ otL := by decide
set_option maxHeartbeats 16000000 in
theorem diskMoves_walk (v : Value) (l : List Ac) (s t : ByteArray) (keep : Int) (w : World) (hv : ActsAt w w.heap.size v l) (hin : ∀ a ∈ l, AcIn a) (hl : l.length ≤ maxLen) (hs : s.size ≤ maxLen) (ht : t.size ≤ maxLen) (hkp : -9223372036854775808 ≤ keep ∧ keep ≤ 9223372036854775807) :
    Calls Try.prog 7 #[v, .string s, .string t, .int .i64 keep] w fun e w' => e = .returned (.bool true) ∧ Below w.heap.size w w' := by
  unfold maxLen at hs ht
  have HSH := hid (shown_any w)
  have HSM := hid (fun wx hb => small_any v l wx w.heap.size (hv.below hb) hin hl)
  have hvv := hv
  obtain ⟨a0, cap, rfl, hc⟩ := hv
  cases hsm : smallB l with
  | false =>
    rw [hsm] at HSM
    clear hsm hc hin hvv
    go_enter Try.func7, Try.ntmps7
    go_wp2_with (first
      | (go_at_call 9; (with_reducible refine HSH.out.mono ?_); rintro e w1 ⟨rfl, hb1⟩)
      | (go_at_call 10; (with_reducible refine (HSM.out _ hb1).mono ?_); rintro e w2 ⟨rfl, rfl⟩))
    go_ret
    exact ⟨rfl, hb1⟩
  | true =>
    obtain ⟨hl80, hok⟩ := small_ok hsm hin
    rw [hsm] at HSM
    by_cases hs6 : 600 < s.size
    · clear hsm hc hin hok hvv
      go_enter Try.func7, Try.ntmps7
      go_wp2_with (first
      | (go_at_call 9; (with_reducible refine HSH.out.mono ?_); rintro e w1 ⟨rfl, hb1⟩)
      | (go_at_call 10; (with_reducible refine (HSM.out _ hb1).mono ?_); rintro e w2 ⟨rfl, rfl⟩))
      go_ret
      exact ⟨rfl, hb1⟩
    · by_cases ht6 : 600 < t.size
      · clear hsm hc hin hok hvv
        go_enter Try.func7, Try.ntmps7
        go_wp2_with (first
      | (go_at_call 9; (with_reducible refine HSH.out.mono ?_); rintro e w1 ⟨rfl, hb1⟩)
      | (go_at_call 10; (with_reducible refine (HSM.out _ hb1).mono ?_); rintro e w2 ⟨rfl, rfl⟩))
        go_ret
        exact ⟨rfl, hb1⟩
      · have hMd : ∀ wx, Below w.heap.size w wx → Calls Try.prog 23 #[.int .i64 2999, .slice a0 l.length cap] wx fun e w' => ∃ a, e = .returned (.tuple #[.pointer (some ⟨a, 0, none⟩), .bool true]) ∧ One w a (acts (newD (pickZ 2999 3000)) l) w' := fun wx hb =>
          (made_any 2999 _ l wx w.heap.size hb.size (hvv.below hb) hok hl80 (by omega) (by omega)).mono fun e w' h => One.made hb h
        obtain ⟨s0, hs0⟩ : ∃ s0, acts (newD (pickZ 2999 3000)) l = s0 := ⟨_, rfl⟩
        have hz0 : s0.Ok := by rw [← hs0]; exact Ok_acts l (Ok_new (by have := pickZ_range 2999 3000 (by omega); omega) (by have := pickZ_range 2999 3000 (by omega); omega)) (fun a ha => (hok a ha).n.2)
        rw [hs0] at hMd
        obtain ⟨s1, hs1⟩ : ∃ s1, crash s0 [] [] = s1 := ⟨_, rfl⟩
        have k1 : Calm onL s1 := by rw [← hs1]; exact calm_crash hz0 onL [] []
        have C1 := hid (fun a wx (h : One w a s0 wx) => h.tail fun S hS => crash_nil hS s1 hs1)
        obtain ⟨s2, hs2⟩ : ∃ s2, (dele s1 onL).1 = s2 := ⟨_, rfl⟩
        obtain ⟨q2, hq2⟩ : ∃ q2, (dele s1 onL).2 = q2 := ⟨_, rfl⟩
        have hd2 := calm_dele (m := onL) k1
        have k2 : Calm onL s2 := by rw [← hs2, hd2.1]; exact hd2.2
        have hno2 : fndK AF.key onL s2.L = none := by rw [← hs2, hd2.1]; show fndK AF.key onL (delK AF.key onL s1.L) = none; rw [fndK_del, if_pos rfl]
        have C2 := hid (fun a wx (h : One w a s1 wx) => h.del ⟨#[111, 119, 110]⟩ (by decide) s2 q2 (by show dele s1 onL = _; rw [← hs2, ← hq2]))
        obtain ⟨s3, hs3⟩ : ∃ s3, (dele s2 otL).1 = s3 := ⟨_, rfl⟩
        obtain ⟨q3, hq3⟩ : ∃ q3, (dele s2 otL).2 = q3 := ⟨_, rfl⟩
        have hd3 := calm_dele (m := otL) k2
        have k3 : Calm onL s3 := by rw [← hs3, hd3.1]; exact hd3.2
        have hno : fndK AF.key onL s3.L = none := by rw [← hs3, hd3.1]; show fndK AF.key onL (delK AF.key otL s2.L) = none; rw [fndK_del, if_neg on_ot]; exact hno2
        have C3 := hid (fun a wx (h : One w a s2 wx) => h.del ⟨#[111, 116, 104, 101, 114]⟩ (by decide) s3 q3 (by show dele s2 otL = _; rw [← hs3, ← hq3]))
        have HMd := hid hMd
        clear hsm hc hin hok hvv hMd hs0 hz0 hs1 k1 hs2 hq2 hd2 k2 hno2 hs3 hq3 hd3
        rcases calm_app_new (d := s.data.toList) k3 on_name hno with ha | ha | ⟨ha, k4, hf4⟩
        · have C4 := hid (fun a wx (h : One w a s3 wx) => h.op fun S hS => app_is hS ⟨#[111, 119, 110]⟩ s (by decide) (by omega) s3 11 ha)
          clear ha k3 hno
          go_enter Try.func7, Try.ntmps7
          go_wp2_with (first
      | (go_at_call 9; (with_reducible refine HSH.out.mono ?_); rintro e w1 ⟨rfl, hb1⟩)
      | (go_at_call 10; (with_reducible refine (HSM.out _ hb1).mono ?_); rintro e w2 ⟨rfl, rfl⟩)
            | (go_at_call 23; (with_reducible refine (HMd.out _ hb1).mono ?_); rintro e wq ⟨a, rfl, hT⟩; have hT := hid hT)
            | (go_at_call 24; first
          | ((with_reducible refine (C1.out _ _ hT.out).mono ?_); rintro e wq ⟨rfl, hT⟩; have hT := hid hT))
            | (go_at_call 26; first
          | ((with_reducible refine (C2.out _ _ hT.out).mono ?_); rintro e wq ⟨rfl, hT⟩; have hT := hid hT)
          | ((with_reducible refine (C3.out _ _ hT.out).mono ?_); rintro e wq ⟨rfl, hT⟩; have hT := hid hT))
            | (go_at_call 27; first
          | ((with_reducible refine (C4.out _ _ hT.out).mono ?_); rintro e wq ⟨rfl, hT⟩; have hT := hid hT)))
          go_ret
          exact ⟨rfl, hT.out.below'⟩
        · have C4 := hid (fun a wx (h : One w a s3 wx) => h.op fun S hS => app_is hS ⟨#[111, 119, 110]⟩ s (by decide) (by omega) s3 6 ha)
          clear ha k3 hno
          go_enter Try.func7, Try.ntmps7
          go_wp2_with (first
      | (go_at_call 9; (with_reducible refine HSH.out.mono ?_); rintro e w1 ⟨rfl, hb1⟩)
      | (go_at_call 10; (with_reducible refine (HSM.out _ hb1).mono ?_); rintro e w2 ⟨rfl, rfl⟩)
            | (go_at_call 23; (with_reducible refine (HMd.out _ hb1).mono ?_); rintro e wq ⟨a, rfl, hT⟩; have hT := hid hT)
            | (go_at_call 24; first
          | ((with_reducible refine (C1.out _ _ hT.out).mono ?_); rintro e wq ⟨rfl, hT⟩; have hT := hid hT))
            | (go_at_call 26; first
          | ((with_reducible refine (C2.out _ _ hT.out).mono ?_); rintro e wq ⟨rfl, hT⟩; have hT := hid hT)
          | ((with_reducible refine (C3.out _ _ hT.out).mono ?_); rintro e wq ⟨rfl, hT⟩; have hT := hid hT))
            | (go_at_call 27; first
          | ((with_reducible refine (C4.out _ _ hT.out).mono ?_); rintro e wq ⟨rfl, hT⟩; have hT := hid hT)))
          go_ret
          exact ⟨rfl, hT.out.below'⟩
        · have C4 := hid (fun a wx (h : One w a s3 wx) => h.op fun S hS => app_is hS ⟨#[111, 119, 110]⟩ s (by decide) (by omega) _ 0 ha)
          generalize hs4 : ({ s3 with L := insK AF.key (newF onL s.data.toList) s3.L } : Dk) = s4 at *
          have hf4' : fndK AF.key onL s4.L = some ⟨onL, s.data.toList, 0⟩ := by rw [← hs4]; exact hf4
          obtain ⟨e5, k5, hf5⟩ := calm_syn k4 hf4'
          have C5 := hid (fun a wx (h : One w a s4 wx) => h.op fun S hS => syn_is hS ⟨#[111, 119, 110]⟩ (by decide) _ 0 e5)
          generalize hs5 : ({ s4 with L := updK AF.key onL syncF s4.L } : Dk) = s5 at *
          have hf5' : fndK AF.key onL s5.L = some ⟨onL, s.data.toList, s.data.toList.length⟩ := by rw [← hs5]; exact hf5
          clear ha k3 hno hs4 hf4 hf4' k4 e5 hs5 hf5
          rcases calm_app_old (d := t.data.toList) k5 on_name hf5' with hb | ⟨hb, k6, hf6⟩
          · have C6 := hid (fun a wx (h : One w a s5 wx) => h.op fun S hS => app_is hS ⟨#[111, 119, 110]⟩ t (by decide) (by omega) s5 6 hb)
            clear hb k5 hf5'
            go_enter Try.func7, Try.ntmps7
            go_wp2_with (first
      | (go_at_call 9; (with_reducible refine HSH.out.mono ?_); rintro e w1 ⟨rfl, hb1⟩)
      | (go_at_call 10; (with_reducible refine (HSM.out _ hb1).mono ?_); rintro e w2 ⟨rfl, rfl⟩)
              | (go_at_call 23; (with_reducible refine (HMd.out _ hb1).mono ?_); rintro e wq ⟨a, rfl, hT⟩; have hT := hid hT)
              | (go_at_call 24; first
          | ((with_reducible refine (C1.out _ _ hT.out).mono ?_); rintro e wq ⟨rfl, hT⟩; have hT := hid hT))
              | (go_at_call 26; first
          | ((with_reducible refine (C2.out _ _ hT.out).mono ?_); rintro e wq ⟨rfl, hT⟩; have hT := hid hT)
          | ((with_reducible refine (C3.out _ _ hT.out).mono ?_); rintro e wq ⟨rfl, hT⟩; have hT := hid hT))
              | (go_at_call 27; first
          | ((with_reducible refine (C4.out _ _ hT.out).mono ?_); rintro e wq ⟨rfl, hT⟩; have hT := hid hT)
          | ((with_reducible refine (C6.out _ _ hT.out).mono ?_); rintro e wq ⟨rfl, hT⟩; have hT := hid hT))
              | (go_at_call 28; first
          | ((with_reducible refine (C5.out _ _ hT.out).mono ?_); rintro e wq ⟨rfl, hT⟩; have hT := hid hT)))
            go_ret
            exact ⟨rfl, hT.out.below'⟩
          · have C6 := hid (fun a wx (h : One w a s5 wx) => h.op fun S hS => app_is hS ⟨#[111, 119, 110]⟩ t (by decide) (by omega) _ 0 hb)
            generalize hs6 : ({ s5 with L := updK AF.key onL (addF t.data.toList) s5.L } : Dk) = s6 at *
            have hf6' : fndK AF.key onL s6.L = some ⟨onL, s.data.toList ++ t.data.toList, s.data.toList.length⟩ := by rw [← hs6]; exact hf6
            obtain ⟨s7, e7, k7, hf7, hn7⟩ := calm_ren k6 ot_name on_ot hf6'
            have C7 := hid (fun a wx (h : One w a s6 wx) => h.ren ⟨#[111, 119, 110]⟩ ⟨#[111, 116, 104, 101, 114]⟩ (by decide) (by decide) s7 0 e7)
            have hr1 : rd s7 onL = ([], 4) := by rw [rd_calm k7, hn7]
            have hr2 : rd s7 otL = (s.data.toList ++ t.data.toList, 0) := by rw [rd_calm k7, hf7]
            have C8 := hid (fun a wx (h : One w a s7 wx) => h.read ⟨#[111, 119, 110]⟩ (by decide) _ _ hr1)
            have C8b := hid (fun a wx (h : One w a s7 wx) => h.read ⟨#[111, 116, 104, 101, 114]⟩ (by decide) _ _ hr2)
            obtain ⟨s8, hs8⟩ : ∃ s8, crash s7 [keep] [] = s8 := ⟨_, rfl⟩
            have C9 := hid (fun a wx (h : One w a s7 wx) => h.crashLone keep hkp s8 hs8)
            have hK : min (max keep 0).toNat t.data.toList.length ≤ t.data.toList.length := Nat.min_le_right _ _
            have hKI : min (max keep 0) (t.size : Int) = ((min (max keep 0).toNat t.data.toList.length : Nat) : Int) := by rw [str_len]; omega
            have hrd := calm_read k7 hf7 [keep] []
            rw [hs8] at hrd
            simp only [List.headD_cons, List.headD_nil] at hrd
            rw [crF_data, leftT_zero _ hK] at hrd
            have C10 := hid (fun a wx (h : One w a s8 wx) => h.read ⟨#[111, 116, 104, 101, 114]⟩ (by decide) _ 0 hrd)
            clear hb k5 hf5' hs6 hf6 hf6' k6 hs8 hrd e7 k7 hf7 hn7 hr1 hr2
            generalize min (max keep 0).toNat t.data.toList.length = K at *
            have hst : mk (s.data.toList ++ t.data.toList) = s ++ t := by rw [← mk_append, mk_of, mk_of]
            change Hid (∀ a wx, One w a s7 wx → Calls _ _ _ wx fun e w' => e = .returned (.tuple #[.string (mk (s.data.toList ++ t.data.toList)), .int .i64 0]) ∧ wx = w') at C8b
            change Hid (∀ a wx, One w a s8 wx → Calls _ _ _ wx fun e w' => e = .returned (.tuple #[.string (mk (s.data.toList ++ t.data.toList.take K)), .int .i64 0]) ∧ wx = w') at C10
            rw [hst] at C8b
            have hKt : K ≤ t.size := by rw [← str_len]; exact hK
            have hstz : (s ++ t).size = s.size + t.size := ByteArray.size_append
            have l1 := fun wx => slice_h (s := s ++ t) (hi := (s.size : Int) + (K : Int)) (l := s.data.toList ++ t.data.toList.take K) (by omega) (by rw [hstz]; omega) (by
              rw [append_data, show ((s.size : Int) + (K : Int)).toNat = s.size + K by omega, List.take_append, List.take_of_length_le (by rw [str_len]; omega), str_len, show s.size + K - s.size = K by omega]) wx
            generalize mk (s.data.toList ++ t.data.toList.take K) = V at *
            have HSI : (s.size : Int) ≤ 600 := by omega
            have HTI : (t.size : Int) ≤ 600 := by omega
            have hKI0 : 0 ≤ (K : Int) := by omega
            have hKI6 : (K : Int) ≤ 600 := by omega
            clear hK hst hstz hKt
            go_enter Try.func7, Try.ntmps7
            go_wp2_with (first
      | (go_at_call 9; (with_reducible refine HSH.out.mono ?_); rintro e w1 ⟨rfl, hb1⟩)
      | (go_at_call 10; (with_reducible refine (HSM.out _ hb1).mono ?_); rintro e w2 ⟨rfl, rfl⟩)
              | (go_at_call 23; (with_reducible refine (HMd.out _ hb1).mono ?_); rintro e wq ⟨a, rfl, hT⟩; have hT := hid hT)
              | (go_at_call 24; first
          | ((with_reducible refine (C1.out _ _ hT.out).mono ?_); rintro e wq ⟨rfl, hT⟩; have hT := hid hT)
          | ((with_reducible refine (C9.out _ _ hT.out).mono ?_); rintro e wq ⟨rfl, hT⟩; have hT := hid hT))
              | (go_at_call 26; first
          | ((with_reducible refine (C2.out _ _ hT.out).mono ?_); rintro e wq ⟨rfl, hT⟩; have hT := hid hT)
          | ((with_reducible refine (C3.out _ _ hT.out).mono ?_); rintro e wq ⟨rfl, hT⟩; have hT := hid hT))
              | (go_at_call 27; first
          | ((with_reducible refine (C4.out _ _ hT.out).mono ?_); rintro e wq ⟨rfl, hT⟩; have hT := hid hT)
          | ((with_reducible refine (C6.out _ _ hT.out).mono ?_); rintro e wq ⟨rfl, hT⟩; have hT := hid hT))
              | (go_at_call 28; first
          | ((with_reducible refine (C5.out _ _ hT.out).mono ?_); rintro e wq ⟨rfl, hT⟩; have hT := hid hT))
              | (go_at_call 29; first
          | ((with_reducible refine (C7.out _ _ hT.out).mono ?_); rintro e wq ⟨rfl, hT⟩; have hT := hid hT))
              | (go_at_call 22; first
          | ((with_reducible refine (C8.out _ _ hT.out).mono ?_); rintro e wq ⟨rfl, rfl⟩)
          | ((with_reducible refine (C8b.out _ _ hT.out).mono ?_); rintro e wq ⟨rfl, rfl⟩)
          | ((with_reducible refine (C10.out _ _ hT.out).mono ?_); rintro e wq ⟨rfl, rfl⟩)))
            go_ret
            exact ⟨by simp, hT.out.below'⟩

namespace rowDiskMoves
open Go.ChangeShapes Go.WideShapes Go.ChangeAt Go.RowKit
open Go.WideMaps Go.WideElems
open Go.ChangeMaps (open_string shut_string)
theorem contract (H : Type) (enc : TypeId × Value → H) (W : World) (base : Nat) (args : Array Value) (ds gs : List (DataW H)) (before : List MemPlace)
    (hval : ∀ (j : Nat) t v, Try.f7.params[j]? = some t → args[j]? = some v → Value.okWide Try.prog W .any base t v)
    (hW : DataW.Whole enc Try.prog Try.f7.params.toList Rows.diskMovesSpec.vars false W args.toList ds gs before) :
    Calls Try.prog 7 args W fun e W' => ∃ v, e = .returned v ∧ Rows.diskMovesSpec.post enc Try.prog Try.f7 false true false false W args v W' := by
  have hW' := hW
  obtain ⟨p, q, hA0, hV, rfl, hfz, hnd⟩ := hW
  have hlt := hW'.lt
  have hA : DataW.TrodAll enc Try.prog W 0 (fun _ => true) true Try.f7.params.toList args.toList ds p := hA0
  rw [Try.params7] at hA hval
  obtain ⟨v0, vs0, d0, ds0, p0, q0, hargs, rfl, rfl, h0, r0⟩ := trodAll_cons hA
  obtain ⟨v1, vs1, d1, ds1, p1, q1, rfl, rfl, rfl, h1, r1⟩ := trodAll_cons r0
  obtain ⟨v2, vs2, d2, ds2, p2, q2, rfl, rfl, rfl, h2, r2⟩ := trodAll_cons r1
  obtain ⟨v3, vs3, d3, ds3, p3, q3, rfl, rfl, rfl, h3, r3⟩ := trodAll_cons r2
  obtain ⟨rfl, rfl, rfl⟩ := trodAll_nil r3
  obtain rfl : args = #[v0, v1, v2, v3] := by cases args; simp_all
  obtain ⟨rfl, rfl⟩ := trodVars_none hV
  have hpost : ∀ W', Below W.heap.size W W' → Rows.diskMovesSpec.post enc Try.prog Try.f7 false true false false W #[v0, v1, v2, v3] (.bool true) W' := fun W' hb => law_post hW' hb rfl (by rw [Try.params7]; simp only [List.forall_mem_cons]; exact ⟨okTy (by kernel_rfl) (by kernel_rfl), okTy (by kernel_rfl) (by kernel_rfl), okTy (by kernel_rfl) (by kernel_rfl), okTy (by kernel_rfl) (by kernel_rfl), fun _ h => by cases h⟩) (by kernel_rfl) ⟨rfl, rfl, rfl⟩
  suffices hc : Calls Try.prog 7 #[v0, v1, v2, v3] W fun e W' => e = .returned (.bool true) ∧ Below W.heap.size W W' from hc.mono fun e W' ⟨he, hb⟩ => ⟨_, he, hpost W' hb⟩
  clear hpost
  have o0 := hval 0 22 v0 rfl rfl
  obtain ⟨a0, ha0, hx0, hn0⟩ := acts_arg o0 h0
  obtain ⟨a1, rfl, rfl, rfl, w1⟩ := open_string Try.underlying9 (hval 1 9 v1 rfl rfl) h1
  obtain ⟨a2, rfl, rfl, rfl, w2⟩ := open_string Try.underlying9 (hval 2 9 v2 rfl rfl) h2
  obtain ⟨a3, rfl, rfl, rfl, w3⟩ := open_int Try.underlying3 (hval 3 3 v3 rfl rfl) h3
  exact diskMoves_walk v0 a0 a1 a2 a3 W ha0 hx0 hn0 w1 w2 (by simpa [Lit.wf, IntKind.min, IntKind.max, IntKind.signed, IntKind.bits] using w3)

set_option maxRecDepth 100000 in
theorem lifted (os : Os) (started : os.Started) (H : Type) (enc : TypeId × Value → H) :
    ReturnsInHanded {} Try.checked os 7 .any (Rows.diskMovesSpec.pre6 enc Try.prog Try.f7 Rows.diskMovesRow.domain false) (Rows.diskMovesSpec.post enc Try.prog Try.f7 false true false false) := by
  refine returnsInHanded_of_change (C := Try.checked) ownKnobs started (by kernel_rfl) Try.func7
    (ChangeSpec.witness6 (enc := enc) (C := Try.checked) false ⟨#[], #[.slice none 0 0, .string ⟨#[]⟩, .string ⟨#[]⟩, .int .i64 0], []⟩ 8 (by kernel_rfl) (by kernel_rfl) (by kernel_rfl) (by kernel_rfl)) ?_
  intro W base args ds gs before hval hW _ _
  exact contract H enc W base args ds gs before hval hW
theorem said : Rows.DiskMovesSaid :=
  OpenClaim.holds_of_wide 7 Try.f7 rfl rfl rfl rfl rfl rfl rfl ⟨rfl, rfl, rfl, rfl, rfl⟩ rfl rfl rfl rfl rfl (by kernel_rfl) Try.func7 (by kernel_rfl)
    (of_decide_eq_true (by kernel_rfl)) (by unfold Func.isWrapper; first | (rw [if_pos (by decide +kernel)]; kernel_rfl) | (rw [if_neg (by decide +kernel)]; exact ⟨rfl, rfl⟩))
    (fun os started H enc _ => lifted os started H enc)
end rowDiskMoves
end Go.Proofs.Ytcinegkikahchaa
