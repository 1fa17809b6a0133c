/-
  LAYER 1, the law CodecFramed: frames behind one another are read one by one, to the end. No condition but the table that the row lists.
-/
import Derived.Test.YtpfchdplcbjfdaaDoorShown1
import Derived.Test.YtpfchdplcbjfdaaDoorLaid1
import Derived.Test.YtpfchdplcbjfdaaDoorArgs
namespace Go.Proofs.YtpfchdplcbjfdaaDoor
open Go.RowKit
set_option linter.unusedVariables false


def frames (l : List ByteArray) : List UInt8 := l.flatMap fun s => frameL s.data.toList
theorem frames_snoc (l : List ByteArray) (s : ByteArray) : frames (l ++ [s]) = frames l ++ frameL s.data.toList := by simp [frames]
theorem frames_drop {xs : List ByteArray} {k : Nat} (h : k < xs.length) : frames (xs.drop k) = frameL xs[k].data.toList ++ frames (xs.drop (k + 1)) := by
  unfold frames; rw [List.drop_eq_getElem_cons h, List.flatMap_cons]
theorem frames_length (l : List ByteArray) (h : ∀ s ∈ l, s.size ≤ 500) : (frames l).length ≤ 508 * l.length := by
  induction l with
  | nil => simp [frames]
  | cons s l ih =>
    have h1 := h s (by simp)
    have h2 := ih fun m hm => h m (by simp [hm])
    have h3 := frameL_length s.data.toList
    rw [str_len] at h3
    simp only [frames, List.flatMap_cons, List.length_append, List.length_cons] at *
    omega

theorem codecFramed_long (v : Value) (a : Option Addr) (n cap : Nat) (hv : v = .slice a n cap) (hn : 40 < n) (hm : n ≤ maxLen) (w : World) (hT : Steps w) (h0 : 0 < w.heap.size) :
    Calls Tryd.prog 10 #[v] w fun e w' => e = .returned (.bool true) ∧ Below w.heap.size w w' := by
  subst hv
  have HSH := hid (shown_any w hT h0)
  unfold maxLen at hm
  go_enter Tryd.func10, Tryd.ntmps10
  go_wp2_with (go_at_call 11; (with_reducible refine HSH.out.mono ?_); rintro e w1 ⟨rfl, hb1⟩)
  go_ret
  exact ⟨rfl, hb1⟩

set_option maxHeartbeats 4000000 in
set_option maxRecDepth 100000 in
theorem codecFramed_walk (v : Value) (xs : List ByteArray) (w : World) (hT : Steps w) (h0 : 0 < w.heap.size) (hv : StrsAt w w.heap.size v xs) (hx : ∀ s ∈ xs, s.size ≤ maxLen) (hn : xs.length ≤ maxLen) :
    Calls Tryd.prog 10 #[v] w fun e w' => e = .returned (.bool true) ∧ Below w.heap.size w w' := by
  by_cases hlong : 40 < xs.length
  · obtain ⟨a, cap, hv', _⟩ := hv
    exact codecFramed_long v a xs.length cap hv' hlong hn w hT h0
  · have HSH := hid (shown_any w hT h0)
    have HX := hid hx
    obtain ⟨a, cap, rfl, ha⟩ := hv
    have HA := hid ha
    clear hx ha hn
    go_enter Tryd.func10, Tryd.ntmps10
    go_wp2_with (go_at_call 11; (with_reducible refine HSH.out.mono ?_); rintro e w1 ⟨rfl, hb⟩)
    go_loopw [4, 5] (fun s i wr => ∃ k : Nat, k ≤ xs.length ∧ i = .int .i64 k ∧ s = .string (mk (frames (xs.take k))) ∧ Hid (∀ s ∈ xs.take k, s.size ≤ 500) ∧ Below w.heap.size w wr) (fun _ i _ => xs.length - (intOf i).toNat)
    case atStart => exact ⟨0, Nat.zero_le _, rfl, rfl, hid (by simp), hb⟩
    case round =>
      obtain ⟨k, hk, rfl, rfl, hI, hbl⟩ := hrel
      by_cases hlt : k < xs.length
      · have hx := HX.out xs[k] (List.getElem_mem _)
        obtain ⟨sb, so, rfl, hsb, hc⟩ := HA.out (by intro h; rw [h] at hlt; simp at hlt)
        have c1 : wr.cell? ⟨sb, so + k, none⟩ = some (.string xs[k]) := (hbl.cell (p := ⟨sb, so + k, none⟩) hsb).trans (hc k _ (by simp [hlt]))
        have ht : xs.take (k + 1) = xs.take k ++ [xs[k]] := by rw [List.take_succ_eq_append_getElem hlt]
        have hfl := frames_length (xs.take k) hI.out
        rw [List.length_take] at hfl
        have z1 : (mk (frames (xs.take k))).size ≤ 30000 := by rw [mk_size]; omega
        have HT := hid ht
        clear hc ht
        generalize xs[k] = x at *
        unfold maxLen at hx
        by_cases hbig : 500 < x.size
        · go_wp2_with fail
          go_ret
          exact ⟨rfl, hbl⟩
        · have HF := hid (fun W h1 h2 => frame_any x W (by omega) h1 h2)
          have z2 : (mk (frameL x.data.toList)).size ≤ 600 := by rw [mk_size, frameL_length, str_len]; omega
          have hcat : mk (frames (xs.take k)) ++ mk (frameL x.data.toList) = mk (frames (xs.take (k + 1))) := by rw [HT.out, frames_snoc, mk_append]
          have HC := hid hcat
          have hnew : ∀ s ∈ xs.take (k + 1), s.size ≤ 500 := by
            rw [HT.out]; intro s hs
            rcases List.mem_append.1 hs with h | h
            · exact hI.out s h
            · simp at h; subst h; omega
          have HN := hid hnew
          clear hcat hnew
          generalize mk (frameL x.data.toList) = F at *
          go_wp2_with (go_at_call 24; (with_reducible refine (HF.out _ (hT.below hbl h0) (by have := hbl.size; omega)).mono ?_); rintro e w2 ⟨rfl, hb2⟩; have hbl := hbl.trans (hb2.mono hbl.size))
          go_roundw
          case rel => exact ⟨k + 1, by omega, by go_num, by rw [← HC.out], HN, hbl⟩
          case measure => simp [intOf]; omega
      · have hke : k = xs.length := by omega
        subst hke
        have HI2 := hI.out
        rw [List.take_length] at HI2
        rw [List.take_length]
        have HS := hid HI2
        clear HI2
        have hfl2 := hid (frames_length xs HS.out)
        go_wp2_with fail
        go_loopw [4, 8] (fun s i wr2 => ∃ k : Nat, k ≤ xs.length ∧ i = .int .i64 k ∧ s = .string (mk (frames (xs.drop k))) ∧ Below w.heap.size w wr2) (fun _ i _ => xs.length - (intOf i).toNat)
        case atStart => exact ⟨0, Nat.zero_le _, rfl, rfl, hbl⟩
        case round =>
          obtain ⟨k, hk, rfl, rfl, hbl2⟩ := hrel
          by_cases hlt2 : k < xs.length
          · have hx := HS.out xs[k] (List.getElem_mem _)
            obtain ⟨sb, so, rfl, hsb, hc⟩ := HA.out (by intro h; rw [h] at hlt2; simp at hlt2)
            have c1 : wr.cell? ⟨sb, so + k, none⟩ = some (.string xs[k]) := (hbl2.cell (p := ⟨sb, so + k, none⟩) hsb).trans (hc k _ (by simp [hlt2]))
            have hd := frames_drop hlt2
            have hfl3 := frames_length (xs.drop (k + 1)) fun s hs => HS.out s (List.mem_of_mem_drop hs)
            rw [List.length_drop] at hfl3
            have hz : (frames (xs.drop k)).length = 8 + xs[k].size + (frames (xs.drop (k + 1))).length := by rw [hd, List.length_append, frameL_length, str_len]
            have HU := hid (fun W h1 => shown_un (mk (frames (xs.drop k))) (.tuple #[.string xs[k], .int .i64 (8 + (xs[k].size : Int)), .int .i64 0]) (by
              unfold unfrRes; rw [mk_data, hd, unframe_frame _ _ (by rw [str_len]; omega), mk_of, str_len]; rfl) (by rw [mk_size, hz]; unfold maxLen; omega) W h1)
            have l1 := fun wx => slice_l (s := mk (frames (xs.drop k))) (lo := 8 + (xs[k].size : Int)) (l := frames (xs.drop (k + 1))) (by omega) (by rw [mk_size, hz]; omega) (by
              rw [mk_data, hd, show (8 + (xs[k].size : Int)).toNat = (frameL xs[k].data.toList).length by rw [frameL_length, str_len]; omega, List.drop_left]) wx
            clear hc hd hz
            have hne : (8 + (xs[k].size : Int) == (xs[k].size : Int) + 8) = true := by rw [beq_iff_eq]; omega
            generalize mk (frames (xs.drop k)) = S1 at *
            generalize hS2 : mk (frames (xs.drop (k + 1))) = S2 at *
            have HS2 := hid hS2
            generalize xs[k] = x at *
            clear hS2
            go_wp2_with (go_at_call 26; (with_reducible refine (HU.out _ (hT.below hbl2 h0)).mono ?_); rintro e w2 ⟨rfl, hb2⟩; have c2 : w2.cell? ⟨sb, so + k, none⟩ = some (.string x) := ((hb2.cell (p := ⟨sb, so + k, none⟩) (Nat.lt_of_lt_of_le hsb hbl2.size)).trans c1); have hbl2 := hbl2.trans (hb2.mono hbl2.size))
            go_roundw
            case rel => exact ⟨k + 1, by omega, by go_num, by rw [HS2.out], hbl2⟩
            case measure => simp [intOf]; omega
          · have hke : k = xs.length := by omega
            subst hke
            have HD : Hid (frames (xs.drop xs.length) = []) := hid (by simp [frames])
            rw [HD.out]
            have he : (mk []).toList.isEmpty = true := by rw [Lib.toList_data]; rfl
            go_wp2_with fail
            go_ret
            exact ⟨rfl, hbl2⟩

namespace rowCodecFramed
open Go.ChangeShapes Go.WideShapes Go.ChangeAt Go.RowKit
open Go.WideMaps Go.WideElems
open Go.ChangeMaps (open_string shut_string)
theorem contract (H : Type) (enc : TypeId × Value → H) (W : World) (base : Nat) (args : Array Value) (ds gs : List (DataW H)) (before : List MemPlace)
    (hval : ∀ (j : Nat) t v, Tryd.f10.params[j]? = some t → args[j]? = some v → Value.okWide Tryd.prog W .any base t v)
    (hW : DataW.Whole enc Tryd.prog Tryd.f10.params.toList Rows.codecFramedSpec.vars false W args.toList ds gs before) (hL : laidMetH Tryd.prog Rows.codecFramedRow.laid W) :
    Calls Tryd.prog 10 args W fun e W' => ∃ v, e = .returned v ∧ Rows.codecFramedSpec.post enc Tryd.prog Tryd.f10 false true false false W args v W' := by
  have hW' := hW
  obtain ⟨p, q, hA0, hV, rfl, hfz, hnd⟩ := hW
  have hlt := hW'.lt
  have hA : DataW.TrodAll enc Tryd.prog W 0 (fun _ => true) true Tryd.f10.params.toList args.toList ds p := hA0
  rw [Tryd.params10] at hA hval
  obtain ⟨v0, vs0, d0, ds0, p0, q0, hargs, rfl, rfl, h0, r0⟩ := trodAll_cons hA
  obtain ⟨rfl, rfl, rfl⟩ := trodAll_nil r0
  obtain rfl : args = #[v0] := by cases args; simp_all
  obtain ⟨rfl, rfl⟩ := trodVars_none hV
  have hpost : ∀ W', Below W.heap.size W W' → Rows.codecFramedSpec.post enc Tryd.prog Tryd.f10 false true false false W #[v0] (.bool true) W' := fun W' hb => law_post hW' hb rfl (by rw [Tryd.params10]; simp only [List.forall_mem_cons]; exact ⟨okTy (by kernel_rfl) (by kernel_rfl), fun _ h => by cases h⟩) (by kernel_rfl) ⟨rfl, rfl, rfl⟩
  suffices hc : Calls Tryd.prog 10 #[v0] W fun e W' => e = .returned (.bool true) ∧ Below W.heap.size W W' from hc.mono fun e W' ⟨he, hb⟩ => ⟨_, he, hpost W' hb⟩
  clear hpost
  obtain ⟨hS, h0W⟩ := steps_of hL
  have o0 := hval 0 52 v0 rfl rfl
  obtain ⟨a0, ha0, hx0, hn0⟩ := strs_arg o0 h0
  exact codecFramed_walk v0 a0 W hS h0W ha0 hx0 hn0

theorem laid_met (os : Os) : laidMet Tryd.prog Rows.codecFramedRow.laid ((laidWorld os).forCall (fun _ _ => 0) ⟨#[], #[.slice none 0 0], []⟩).memory :=
  laidMet_of_run' 8 (by kernel_rfl) (by kernel_rfl)
theorem reads (os : Os) {H : Type} (enc : TypeId × Value → H) : ∃ places, DataW.whole enc Tryd.prog ((laidWorld os).forCall (fun _ _ => 0) ⟨#[], #[.slice none 0 0], []⟩).memory Tryd.f10.params.toList Rows.codecFramedSpec.vars false (#[.slice none 0 0] : Array Value).toList 8 = some ([.nil], [], places) :=
  ⟨[], by kernel_rfl⟩
set_option maxRecDepth 100000 in
theorem lifted (os : Os) (started : os.Started) (H : Type) (enc : TypeId × Value → H) (F : Stop.Interp) :
    ReturnsInHanded {} Tryd.checked os 10 .any ((OpenSpec.ofChange Rows.codecFramedSpec).preRow enc Tryd.prog Tryd.f10 Rows.codecFramedRow.domain false Rows.codecFramedRow.laid) (((OpenSpec.ofChange Rows.codecFramedSpec).at F).post enc Tryd.prog Tryd.f10 false true false false) := by
  obtain ⟨places, hx⟩ := reads os enc
  refine returnsInHanded_of_row (C := Tryd.checked) (s := OpenSpec.ofChange Rows.codecFramedSpec) own started (by kernel_rfl) Tryd.func10
    (witness_row_at (enc := enc) (C := Tryd.checked) false (laidWorld os) #[.slice none 0 0] rfl (by kernel_rfl) (by kernel_rfl) (by kernel_rfl)
      (OpenSpec.preRow_of_cond 8 hx (by kernel_rfl) (fun k hk => by cases hk) (by kernel_rfl) (laid_met os))) ?_
  intro W base args ds gs before hval hW _ _ _ hL _ _
  exact contract H enc W base args ds gs before hval hW hL
theorem said : Rows.CodecFramedSaid :=
  OpenClaim.holds_of_cond 10 Tryd.f10 rfl rfl rfl rfl rfl rfl rfl ⟨rfl, rfl, rfl, rfl, rfl⟩ rfl rfl rfl rfl rfl (by kernel_rfl) Tryd.func10 (by kernel_rfl)
    (of_decide_eq_true (by kernel_rfl)) (by unfold Func.isWrapper; first | (rw [if_pos (by decide +kernel)]; kernel_rfl) | (rw [if_neg (by decide +kernel)]; exact ⟨rfl, rfl⟩))
    (fun os started H enc _ F => by rw [OpenClaim.pre_eq_preRow]; exact lifted os started H enc F)
theorem plain (f : FuncId) (fn : Func) (hf : Tryd.pinned.checked.prog.funcNamed "kiosk/kiosklaw1.CodecFramed" = some f) (hfn : Tryd.pinned.checked.prog.funcs[f]? = some fn) :
    false = Tryd.pinned.checked.prog.looks [] ∧ ∀ (j : Nat) t, fn.params[j]? = some t → Tryd.pinned.checked.prog.wantsStandIn t = false := by
  obtain rfl : f = 10 := Option.some.inj ((show Tryd.prog.funcNamed "kiosk/kiosklaw1.CodecFramed" = some 10 by kernel_rfl).symm.trans hf) |>.symm
  obtain rfl : fn = Tryd.f10 := (Option.some.inj (Tryd.func10.symm.trans hfn)).symm
  refine ⟨by kernel_rfl, fun j t ht => ?_⟩
  rw [Tryd.params10] at ht
  have hall : ∀ t ∈ ([52] : List TypeId), Tryd.prog.wantsStandIn t = false := by simp only [List.forall_mem_cons]; exact ⟨(by kernel_rfl), fun _ h => by cases h⟩
  exact hall t (by simpa using Array.mem_of_getElem? ht)
theorem card : Rows.CodecFramedCardSaid :=
  Claim7.holds_tied_plain_at .later [] _ _ _ _ said (fun _ h => by cases h) (by kernel_rfl) (fun _ h => by cases h) codecFramed_row_tie rfl ⟨rfl, rfl⟩ (by kernel_rfl) rfl plain (by kernel_rfl)
end rowCodecFramed
end Go.Proofs.YtpfchdplcbjfdaaDoor
