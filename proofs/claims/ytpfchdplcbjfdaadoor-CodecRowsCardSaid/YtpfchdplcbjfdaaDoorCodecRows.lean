/-
  LAYER 1, the law CodecRows: numbers behind one another are read one by one, each of as few bytes as it needs. No condition but the table that the row lists.
-/
import Derived.Test.YtpfchdplcbjfdaaDoorShown1
import Derived.Test.YtpfchdplcbjfdaaDoorLaid1
import Derived.Test.YtpfchdplcbjfdaaDoorArgs
namespace Go.Proofs.YtpfchdplcbjfdaaDoor
open Go.RowKit
set_option linter.unusedVariables false


theorem encs_drop {xs : List Int} {k : Nat} (h : k < xs.length) : encs (xs.drop k) = enc (nat64 xs[k]) ++ encs (xs.drop (k + 1)) := by
  unfold encs; rw [List.drop_eq_getElem_cons h, List.flatMap_cons]

/-- The head of the law: more than 200 numbers. -/
theorem codecRows_long (v : Value) (a : Option Addr) (n cap : Nat) (hv : v = .slice a n cap) (hn : 200 < n) (hm : n ≤ maxLen) (w : World) (hT : Steps w) (h0 : 0 < w.heap.size) :
    Calls Tryd.prog 8 #[v] w fun e w' => e = .returned (.bool true) ∧ Below w.heap.size w w' := by
  subst hv
  have HSH := hid (shown_any w hT h0)
  unfold maxLen at hm
  go_enter Tryd.func8, Tryd.ntmps8
  go_wp2_with (go_at_call 11; (with_reducible refine HSH.out.mono ?_); rintro e w1 ⟨rfl, hb1⟩)
  go_ret
  exact ⟨rfl, hb1⟩

set_option maxHeartbeats 4000000 in
set_option maxRecDepth 100000 in
theorem codecRows_walk (v : Value) (xs : List Int) (w : World) (hT : Steps w) (h0 : 0 < w.heap.size) (hv : IntsAt w w.heap.size v xs) (hx : ∀ n ∈ xs, -9223372036854775808 ≤ n ∧ n ≤ 9223372036854775807) (hn : xs.length ≤ maxLen) :
    Calls Tryd.prog 8 #[v] w fun e w' => e = .returned (.bool true) ∧ Below w.heap.size w w' := by
  by_cases hlong : 200 < xs.length
  · obtain ⟨a, cap, hv', _⟩ := hv
    exact codecRows_long v a xs.length cap hv' hlong hn w hT h0
  · have HSH := hid (shown_any w hT h0)
    have HX := hid hx
    have HI := hid (fun W (hb : Below w.heap.size w W) => int_any v xs W (by
      obtain ⟨a, cap, hv', ha⟩ := hv
      refine ⟨a, cap, hv', fun h => ?_⟩
      obtain ⟨sb, so, rfl, hsb, hc⟩ := ha h
      exact ⟨sb, so, rfl, Nat.lt_of_lt_of_le hsb hb.size, fun j x hj => (hb.cell (p := ⟨sb, so + j, none⟩) hsb).trans (hc j x hj)⟩) hx (by omega))
    obtain ⟨a, cap, rfl, ha⟩ := hv
    have HA := hid ha
    clear hx ha hn
    go_enter Tryd.func8, Tryd.ntmps8
    go_wp2_with (first
      | (go_at_call 11; (with_reducible refine HSH.out.mono ?_); rintro e w1 ⟨rfl, hb⟩)
      | (go_at_call 14; (with_reducible refine (HI.out _ hb).mono ?_); rintro e w2 ⟨rfl, hb2⟩; have hb := hb.trans (hb2.mono hb.size)))
    have HBB := hid hb
    go_loopw [4, 5] (fun s i wr => ∃ k : Nat, k ≤ xs.length ∧ i = .int .i64 k ∧ s = .string (mk (encs (xs.drop k))) ∧ Below w.heap.size w wr) (fun _ i _ => xs.length - (intOf i).toNat)
    case atStart => exact ⟨0, Nat.zero_le _, rfl, rfl, HBB.out⟩
    case round =>
      obtain ⟨k, hk, rfl, rfl, hbl⟩ := hrel
      by_cases hlt : k < xs.length
      · have hx := HX.out xs[k] (List.getElem_mem _)
        obtain ⟨sb, so, rfl, hsb, hc⟩ := HA.out (by intro h; rw [h] at hlt; simp at hlt)
        have c1 : wr.cell? ⟨sb, so + k, none⟩ = some (.int .i64 xs[k]) := (hbl.cell (p := ⟨sb, so + k, none⟩) hsb).trans (hc k _ (by simp [hlt]))
        have hlenR : (encs (xs.drop (k + 1))).length ≤ 2000 := by
          have := encs_length (xs.drop (k + 1)) fun n hn => HX.out n (List.mem_of_mem_drop hn)
          rw [List.length_drop] at this; omega
        have hu := nat64_lt hx.1 hx.2
        have hul := enc_length hu
        have hup := enc_pos (nat64 xs[k])
        have hul2 : (enc (nat64 xs[k])).length = (encC (nat64 xs[k] / 128)).length + 1 := by rw [enc, List.length_append, List.length_singleton]
        have HT := hid (fun W => toInt_is (mk (encs (xs.drop k))) (by rw [mk_size, encs_drop hlt, List.length_append]; unfold maxLen; omega) (.tuple #[.int .i64 xs[k], .string (mk (encs (xs.drop (k + 1)))), .bool true]) (by rw [mk_data, encs_drop hlt, toInt_enc hu, intRes, unz_nat64]) W)
        have e1 : ((mk (encs (xs.drop k))).size : Int) - ((mk (encs (xs.drop (k + 1)))).size : Int) = ((enc (nat64 xs[k])).length : Int) := by
          rw [mk_size, mk_size, encs_drop hlt, List.length_append]; omega
        have z1 : (mk (encs (xs.drop k))).size ≤ 3000 := by rw [mk_size, encs_drop hlt, List.length_append]; omega
        have z2 : (mk (encs (xs.drop (k + 1)))).size ≤ (mk (encs (xs.drop k))).size := by rw [mk_size, mk_size, encs_drop hlt, List.length_append]; omega
        clear hc
        have hgp : (0 ≤ xs[k] → xs[k] / 64 = ((nat64 xs[k] / 128 : Nat) : Int)) ∧ (xs[k] < 0 → (-(xs[k] + 1)) / 64 = ((nat64 xs[k] / 128 : Nat) : Int)) := by
          unfold nat64; constructor
          · intro h; rw [if_pos h]; omega
          · intro h; rw [if_neg (by omega)]; omega
        have hg2 : nat64 xs[k] / 128 < 144115188075855872 := by omega
        have HU := hid hul2
        clear hul2
        generalize nat64 xs[k] / 128 = g at *
        generalize (enc (nat64 xs[k])).length = u at *
        generalize mk (encs (xs.drop k)) = S1 at *
        generalize hS2 : mk (encs (xs.drop (k + 1))) = S2 at *
        have HS2 := hid hS2
        generalize xs[k] = x at *
        have HG := hid hgp
        clear hS2 hgp
        by_cases hneg : x < 0
        · have HQ := hid (HG.out.2 hneg)
          go_wp2_with (go_at_call 12; (with_reducible refine (HT.out _).mono ?_); rintro e w2 ⟨rfl, hb2⟩; have c2 : w2.cell? ⟨sb, so + k, none⟩ = some (.int .i64 x) := ((hb2.cell (p := ⟨sb, so + k, none⟩) (Nat.lt_of_lt_of_le hsb hbl.size)).trans c1); have hbl := hbl.trans (hb2.mono hbl.size))
          go_loopw [10, 11] (fun q c wr2 => ∃ m n : Nat, m < 144115188075855872 ∧ n ≤ 10 ∧ q = .int .i64 m ∧ c = .int .i64 n ∧ Hid (n + (encC m).length = u) ∧ w2 = wr2) (fun q _ _ => (intOf q).toNat)
          case atStart => exact ⟨g, 1, hg2, by omega, congrArg _ (by rw [← Int.neg_tdiv, Int.tdiv_eq_ediv_of_nonneg (by omega), HQ.out]; unfold wrap64; omega), rfl, hid (by rw [HU.out]; omega), rfl⟩
          case round =>
            obtain ⟨m, n, hm, hn10, rfl, rfl, hI, rfl⟩ := hrel
            have HI3 := hI.out
            by_cases hm0 : m = 0
            · subst hm0
              rw [encC_zero] at HI3
              have hnu : n = u := by simpa using HI3
              subst hnu
              clear HI3
              go_wp2_with fail
              go_roundw
              case rel => exact ⟨k + 1, by omega, by go_num, by rw [HS2.out], hbl⟩
              case measure => simp [intOf]; omega
            · rw [encC_pos hm0, List.length_append, List.length_singleton] at HI3
              have HI4 := hid HI3
              clear HI3
              go_wp2_with fail
              go_roundw
              case rel => exact ⟨m / 128, n + 1, by omega, by have := HI4.out; omega, by go_num, by go_num, hid (by have := HI4.out; omega), by trivial⟩
              case measure => simp [intOf]; omega
        · have HQ := hid (HG.out.1 (by omega))
          go_wp2_with (go_at_call 12; (with_reducible refine (HT.out _).mono ?_); rintro e w2 ⟨rfl, hb2⟩; have c2 : w2.cell? ⟨sb, so + k, none⟩ = some (.int .i64 x) := ((hb2.cell (p := ⟨sb, so + k, none⟩) (Nat.lt_of_lt_of_le hsb hbl.size)).trans c1); have hbl := hbl.trans (hb2.mono hbl.size))
          go_loopw [10, 11] (fun q c wr2 => ∃ m n : Nat, m < 144115188075855872 ∧ n ≤ 10 ∧ q = .int .i64 m ∧ c = .int .i64 n ∧ Hid (n + (encC m).length = u) ∧ w2 = wr2) (fun q _ _ => (intOf q).toNat)
          case atStart => exact ⟨g, 1, hg2, by omega, congrArg _ HQ.out, rfl, hid (by rw [HU.out]; omega), rfl⟩
          case round =>
            obtain ⟨m, n, hm, hn10, rfl, rfl, hI, rfl⟩ := hrel
            have HI3 := hI.out
            by_cases hm0 : m = 0
            · subst hm0
              rw [encC_zero] at HI3
              have hnu : n = u := by simpa using HI3
              subst hnu
              clear HI3
              go_wp2_with fail
              go_roundw
              case rel => exact ⟨k + 1, by omega, by go_num, by rw [HS2.out], hbl⟩
              case measure => simp [intOf]; omega
            · rw [encC_pos hm0, List.length_append, List.length_singleton] at HI3
              have HI4 := hid HI3
              clear HI3
              go_wp2_with fail
              go_roundw
              case rel => exact ⟨m / 128, n + 1, by omega, by have := HI4.out; omega, by go_num, by go_num, hid (by have := HI4.out; omega), by trivial⟩
              case measure => simp [intOf]; omega
      · have hke : k = xs.length := by omega
        subst hke
        have HD : Hid (encs (xs.drop xs.length) = []) := hid (by simp [encs])
        rw [HD.out]
        have he : (mk []).toList.isEmpty = true := by rw [Lib.toList_data]; rfl
        go_wp2_with fail
        go_ret
        exact ⟨rfl, hbl⟩

namespace rowCodecRows
open Go.ChangeShapes Go.WideShapes Go.ChangeAt Go.RowKit
open Go.WideMaps Go.WideElems
open Go.ChangeMaps (open_string shut_string)
theorem contract (H : Type) (enc : TypeId × Value → H) (W : World) (base : Nat) (args : Array Value) (ds gs : List (DataW H)) (before : List MemPlace)
    (hval : ∀ (j : Nat) t v, Tryd.f8.params[j]? = some t → args[j]? = some v → Value.okWide Tryd.prog W .any base t v)
    (hW : DataW.Whole enc Tryd.prog Tryd.f8.params.toList Rows.codecRowsSpec.vars false W args.toList ds gs before) (hL : laidMetH Tryd.prog Rows.codecRowsRow.laid W) :
    Calls Tryd.prog 8 args W fun e W' => ∃ v, e = .returned v ∧ Rows.codecRowsSpec.post enc Tryd.prog Tryd.f8 false true false false W args v W' := by
  have hW' := hW
  obtain ⟨p, q, hA0, hV, rfl, hfz, hnd⟩ := hW
  have hlt := hW'.lt
  have hA : DataW.TrodAll enc Tryd.prog W 0 (fun _ => true) true Tryd.f8.params.toList args.toList ds p := hA0
  rw [Tryd.params8] at hA hval
  obtain ⟨v0, vs0, d0, ds0, p0, q0, hargs, rfl, rfl, h0, r0⟩ := trodAll_cons hA
  obtain ⟨rfl, rfl, rfl⟩ := trodAll_nil r0
  obtain rfl : args = #[v0] := by cases args; simp_all
  obtain ⟨rfl, rfl⟩ := trodVars_none hV
  have hpost : ∀ W', Below W.heap.size W W' → Rows.codecRowsSpec.post enc Tryd.prog Tryd.f8 false true false false W #[v0] (.bool true) W' := fun W' hb => law_post hW' hb rfl (by rw [Tryd.params8]; simp only [List.forall_mem_cons]; exact ⟨okTy (by kernel_rfl) (by kernel_rfl), fun _ h => by cases h⟩) (by kernel_rfl) ⟨rfl, rfl, rfl⟩
  suffices hc : Calls Tryd.prog 8 #[v0] W fun e W' => e = .returned (.bool true) ∧ Below W.heap.size W W' from hc.mono fun e W' ⟨he, hb⟩ => ⟨_, he, hpost W' hb⟩
  clear hpost
  obtain ⟨hS, h0W⟩ := steps_of hL
  have o0 := hval 0 49 v0 rfl rfl
  obtain ⟨a0, ha0, hx0, hn0⟩ := ints_arg o0 h0
  exact codecRows_walk v0 a0 W hS h0W ha0 hx0 hn0

theorem laid_met (os : Os) : laidMet Tryd.prog Rows.codecRowsRow.laid ((laidWorld os).forCall (fun _ _ => 0) ⟨#[], #[.slice none 0 0], []⟩).memory :=
  laidMet_of_run' 8 (by kernel_rfl) (by kernel_rfl)
theorem reads (os : Os) {H : Type} (enc : TypeId × Value → H) : ∃ places, DataW.whole enc Tryd.prog ((laidWorld os).forCall (fun _ _ => 0) ⟨#[], #[.slice none 0 0], []⟩).memory Tryd.f8.params.toList Rows.codecRowsSpec.vars false (#[.slice none 0 0] : Array Value).toList 8 = some ([.nil], [], places) :=
  ⟨[], by kernel_rfl⟩
set_option maxRecDepth 100000 in
theorem lifted (os : Os) (started : os.Started) (H : Type) (enc : TypeId × Value → H) (F : Stop.Interp) :
    ReturnsInHanded {} Tryd.checked os 8 .any ((OpenSpec.ofChange Rows.codecRowsSpec).preRow enc Tryd.prog Tryd.f8 Rows.codecRowsRow.domain false Rows.codecRowsRow.laid) (((OpenSpec.ofChange Rows.codecRowsSpec).at F).post enc Tryd.prog Tryd.f8 false true false false) := by
  obtain ⟨places, hx⟩ := reads os enc
  refine returnsInHanded_of_row (C := Tryd.checked) (s := OpenSpec.ofChange Rows.codecRowsSpec) own started (by kernel_rfl) Tryd.func8
    (witness_row_at (enc := enc) (C := Tryd.checked) false (laidWorld os) #[.slice none 0 0] rfl (by kernel_rfl) (by kernel_rfl) (by kernel_rfl)
      (OpenSpec.preRow_of_cond 8 hx (by kernel_rfl) (fun k hk => by cases hk) (by kernel_rfl) (laid_met os))) ?_
  intro W base args ds gs before hval hW _ _ _ hL _ _
  exact contract H enc W base args ds gs before hval hW hL
theorem said : Rows.CodecRowsSaid :=
  OpenClaim.holds_of_cond 8 Tryd.f8 rfl rfl rfl rfl rfl rfl rfl ⟨rfl, rfl, rfl, rfl, rfl⟩ rfl rfl rfl rfl rfl (by kernel_rfl) Tryd.func8 (by kernel_rfl)
    (of_decide_eq_true (by kernel_rfl)) (by unfold Func.isWrapper; first | (rw [if_pos (by decide +kernel)]; kernel_rfl) | (rw [if_neg (by decide +kernel)]; exact ⟨rfl, rfl⟩))
    (fun os started H enc _ F => by rw [OpenClaim.pre_eq_preRow]; exact lifted os started H enc F)
theorem plain (f : FuncId) (fn : Func) (hf : Tryd.pinned.checked.prog.funcNamed "kiosk/kiosklaw1.CodecRows" = some f) (hfn : Tryd.pinned.checked.prog.funcs[f]? = some fn) :
    false = Tryd.pinned.checked.prog.looks [] ∧ ∀ (j : Nat) t, fn.params[j]? = some t → Tryd.pinned.checked.prog.wantsStandIn t = false := by
  obtain rfl : f = 8 := Option.some.inj ((show Tryd.prog.funcNamed "kiosk/kiosklaw1.CodecRows" = some 8 by kernel_rfl).symm.trans hf) |>.symm
  obtain rfl : fn = Tryd.f8 := (Option.some.inj (Tryd.func8.symm.trans hfn)).symm
  refine ⟨by kernel_rfl, fun j t ht => ?_⟩
  rw [Tryd.params8] at ht
  have hall : ∀ t ∈ ([49] : List TypeId), Tryd.prog.wantsStandIn t = false := by simp only [List.forall_mem_cons]; exact ⟨(by kernel_rfl), fun _ h => by cases h⟩
  exact hall t (by simpa using Array.mem_of_getElem? ht)
theorem card : Rows.CodecRowsCardSaid :=
  Claim7.holds_tied_plain_at .later [] _ _ _ _ said (fun _ h => by cases h) (by kernel_rfl) (fun _ h => by cases h) codecRows_row_tie rfl ⟨rfl, rfl⟩ (by kernel_rfl) rfl plain (by kernel_rfl)
end rowCodecRows
end Go.Proofs.YtpfchdplcbjfdaaDoor
