/-
  LAYER 1, the law CodecCuts: a frame that is cut short, or of which a bit of the sum or the payload is turned, is not read. No condition but the table that the row lists.
-/
import Derived.Test.YtpfchdplcbjfdaaDoorShown1
import Derived.Test.YtpfchdplcbjfdaaDoorLaid1
import Derived.Test.YtpfchdplcbjfdaaDoorArgs
namespace Go.Proofs.YtpfchdplcbjfdaaDoor
open Go.RowKit
set_option linter.unusedVariables false


/-- Which of n things the raw number c speaks of. -/
def pickN (c : Int) (n : Nat) : Nat := if c < 0 then ((-(c + 1)) % (n : Int)).toNat else (c % (n : Int)).toNat
theorem pickN_lt (c : Int) {n : Nat} (hn : 0 < n) : pickN c n < n := by
  unfold pickN
  have h1 := Int.emod_lt_of_pos (-(c + 1)) (show (0 : Int) < n by omega)
  have h2 := Int.emod_lt_of_pos c (show (0 : Int) < n by omega)
  have h3 := Int.emod_nonneg (-(c + 1)) (show (n : Int) ≠ 0 by omega)
  have h4 := Int.emod_nonneg c (show (n : Int) ≠ 0 by omega)
  split <;> omega
theorem pick_any (c : Int) (n : Nat) (hc : -9223372036854775808 ≤ c ∧ c ≤ 9223372036854775807) (hn : 0 < n) (hn2 : n ≤ 9223372036854775807) (w : World) :
    Calls Tryd.prog 30 #[.int .i64 c, .int .i64 (n : Int)] w fun e w' => e = .returned (.int .i64 (pickN c n : Nat)) ∧ w = w' := by
  have hn1 : (1 : Int) ≤ (n : Int) := by omega
  have hne : ((n : Int) == 0) = false := by rw [beq_eq_false_iff_ne]; omega
  by_cases h : c < 0
  · have HP : Hid (((pickN c n : Nat) : Int) = (-(c + 1)) % (n : Int)) := hid (by
      unfold pickN; rw [if_pos h]
      have h3 := Int.emod_nonneg (-(c + 1)) (show (n : Int) ≠ 0 by omega)
      omega)
    go_enter Tryd.func30, Tryd.ntmps30
    go_wp2
    go_ret
    exact ⟨by rw [HP.out, ← Int.tmod_eq_emod_of_nonneg (by omega), Int.neg_tmod]; rfl, rfl⟩
  · have HP : Hid (((pickN c n : Nat) : Int) = c % (n : Int)) := hid (by
      unfold pickN; rw [if_neg h]
      have h3 := Int.emod_nonneg c (show (n : Int) ≠ 0 by omega)
      omega)
    go_enter Tryd.func30, Tryd.ntmps30
    go_wp2
    go_ret
    exact ⟨by rw [HP.out]; rfl, rfl⟩

set_option maxHeartbeats 4000000 in
set_option maxRecDepth 100000 in
theorem codecCuts_walk (t : ByteArray) (at_ bit : Int) (w : World) (hT : Steps w) (h0 : 0 < w.heap.size) (ht : t.size ≤ maxLen) (ha : -9223372036854775808 ≤ at_ ∧ at_ ≤ 9223372036854775807) (hb : -9223372036854775808 ≤ bit ∧ bit ≤ 9223372036854775807) :
    Calls Tryd.prog 7 #[.string t, .int .i64 at_, .int .i64 bit] w fun e w' => e = .returned (.bool true) ∧ Below w.heap.size w w' := by
  have HSH := hid (shown_any w hT h0)
  unfold maxLen at ht
  by_cases hlong : 2000 < t.size
  · go_enter Tryd.func7, Tryd.ntmps7
    go_wp2_with (go_at_call 11; (with_reducible refine HSH.out.mono ?_); rintro e w1 ⟨rfl, hb⟩)
    go_ret
    exact ⟨rfl, hb⟩
  · have hfl := frameL_length t.data.toList
    rw [str_len] at hfl
    have HF := hid (fun W h1 h2 => frame_any t W (by omega) h1 h2)
    have hzF : ((mk (frameL t.data.toList)).size : Int) = (t.size : Int) + 8 := by rw [mk_size, hfl]; omega
    have hp1 := pickN_lt at_ (n := 8 + t.size) (by omega)
    have hp2 := pickN_lt at_ (n := 4 + t.size) (by omega)
    have hp3 := pickN_lt bit (n := 8) (by omega)
    have HP1 := hid (fun W => pick_any at_ (8 + t.size) ha (by omega) (by omega) W)
    have HP2 := hid (fun W => pick_any at_ (4 + t.size) ha (by omega) (by omega) W)
    have HP3 := hid (fun W => pick_any bit 8 hb (by omega) (by omega) W)
    rw [show ((8 + t.size : Nat) : Int) = (t.size : Int) + 8 by omega] at HP1
    rw [show ((4 + t.size : Nat) : Int) = (t.size : Int) + 8 - 4 by omega] at HP2
    rw [show ((8 : Nat) : Int) = 8 from rfl] at HP3
    generalize pickN at_ (8 + t.size) = p1 at *
    generalize pickN at_ (4 + t.size) = p2 at *
    generalize pickN bit 8 = p3 at *
    have l1 := fun wx => slice_h (s := mk (frameL t.data.toList)) (hi := (p1 : Int)) (l := (frameL t.data.toList).take p1) (by omega) (by omega) rfl wx
    have HU1 := hid (fun W h1 => shown_un (mk ((frameL t.data.toList).take p1)) (.tuple #[.string ⟨#[]⟩, .int .i64 0, .int .i64 8]) (by
      unfold unfrRes; rw [mk_data, unframe_cut _ (by rw [str_len]; omega) _ (by rw [str_len]; omega)]; rfl) (by rw [mk_size, List.length_take, hfl]; unfold maxLen; omega) W h1)
    go_enter Tryd.func7, Tryd.ntmps7
    go_wp2_with (first
      | (go_at_call 11; (with_reducible refine HSH.out.mono ?_); rintro e w1 ⟨rfl, hb⟩)
      | (go_at_call 24; (with_reducible refine (HF.out _ (hT.below hb h0) (by have := hb.size; omega)).mono ?_); rintro e w2 ⟨rfl, hb2⟩; have hb := hb.trans (hb2.mono hb.size))
      | (go_at_call 30; (with_reducible refine (HP1.out _).mono ?_); rintro e w3 ⟨rfl, rfl⟩)
      | (go_at_call 26; (with_reducible refine (HU1.out _ (hT.below hb h0)).mono ?_); rintro e w4 ⟨rfl, hb4⟩; have hb := hb.trans (hb4.mono hb.size)))
    obtain ⟨cap, w5, hrun, hrow, hb5, hcap, hsz⟩ := run_bytes w4 (mk (frameL t.data.toList))
    have hbb := hb.trans (hb5.mono hb.size)
    have hg0 := hb.size
    rw [hrun]
    simp only [Result.andThen]
    rw [Oper.upon_value]
    rw [mk_data] at hrow
    have hlk : 4 + p2 < (frameL t.data.toList).length := by omega
    have c1 := hrow.2.1 (4 + p2) (frameL t.data.toList)[4 + p2] (by simp [hlk])
    have f1 := hrow.2.2 (4 + p2) hlk
    have HR := hid hrow
    have hget : (frameL t.data.toList)[4 + p2]? = some (frameL t.data.toList)[4 + p2] := by simp [hlk]
    have HG := hid hget
    clear hrow hb5 hsz hget hrun
    generalize (frameL t.data.toList)[4 + p2] = old at *
    generalize w4.heap.size = g at *
    have i1 : (4 : Int) + (p2 : Int) < ((mk (frameL t.data.toList)).size : Int) := by omega
    have hold : old.toNat < 256 := old.toNat_lt
    go_wp2_with (go_at_call 30; (with_reducible refine (HP2.out _).mono ?_); rintro e w6 ⟨rfl, rfl⟩)
    have s1 : (4 + (p2 : Int)).toNat = 4 + p2 := by omega
    have s2 : (0 : Int) ≤ 4 + (p2 : Int) := by omega
    have s3 : IntKind.u64.wrap (p3 : Int) = (p3 : Int) := by rw [wrap_u64]; omega
    have s4 : (0 : Int) ≤ (p3 : Int) := by omega
    have s5 : (p3 : Int) < 8 := by omega
    go_region_with (go_at_call 30; (with_reducible refine (HP3.out _).mono ?_); rintro e w6 ⟨rfl, rfl⟩)
    all_goals
      go_wp2_with fail
      have hpow : 2 ^ p3 < 256 := by
        have : 2 ^ p3 ≤ 2 ^ 7 := Nat.pow_le_pow_right (by omega) (by omega)
        omega
      have hpos : 0 < 2 ^ p3 := Nat.pow_pos (by omega)
      have hen : (UInt8.ofNat (2 ^ p3)).toNat = 2 ^ p3 := ofNat_toNat hpow
      have he0 : UInt8.ofNat (2 ^ p3) ≠ 0 := fun h => by rw [h] at hen; have : (0 : UInt8).toNat = 0 := rfl; omega
      have hnv : bits .xor .u8 (old.toNat : Int) (2 ^ p3 % 256) = ((old ^^^ UInt8.ofNat (2 ^ p3)).toNat : Int) := by
        rw [UInt8.toNat_xor, hen, ← u8_xor_nat _ _ hold hpow]
        congr 1
        have : ((2 ^ p3 : Nat) : Int) = (2 : Int) ^ p3 := by rw [Int.natCast_pow]; rfl
        omega
      have hrow6 := HR.out.set (4 + p2) hlk (old ^^^ UInt8.ofNat (2 ^ p3)) _ hnv
      have hbl6 : Below w.heap.size w (w5.setCell ⟨g, 4 + p2, none⟩ (.int .u8 (bits .xor .u8 (old.toNat : Int) (2 ^ p3 % 256)))).drew := (hbb.setCell (p := ⟨g, 4 + p2, none⟩) hg0 _).drew
      have hrow7 : RowAt (w5.setCell ⟨g, 4 + p2, none⟩ (.int .u8 (bits .xor .u8 (old.toNat : Int) (2 ^ p3 % 256)))).drew g g ((frameL t.data.toList).set (4 + p2) (old ^^^ UInt8.ofNat (2 ^ p3))) := hrow6
      have HU2 := hid (fun W h1 => shown_un (mk ((frameL t.data.toList).set (4 + p2) (old ^^^ UInt8.ofNat (2 ^ p3)))) (.tuple #[.string ⟨#[]⟩, .int .i64 0, .int .i64 9]) (by
        unfold unfrRes; rw [mk_data, unframe_turn _ (by rw [str_len]; omega) (4 + p2) (by omega) (by rw [str_len]; omega) old _ HG.out he0]; rfl) (by rw [mk_size, List.length_set, hfl]; unfold maxLen; omega) W h1)
      have hrs := run_string (w := (w5.setCell ⟨g, 4 + p2, none⟩ (.int .u8 (bits .xor .u8 (old.toNat : Int) (2 ^ p3 % 256)))).drew) (g := g) (n := (mk (frameL t.data.toList)).size) (cap := cap) (by rw [mk_size, List.length_set]) hrow7.2.1
      clear hrow6 hrow7 hnv s1 s2 s3 s4 s5
      generalize (w5.setCell ⟨g, 4 + p2, none⟩ (.int .u8 (bits .xor .u8 (old.toNat : Int) (2 ^ p3 % 256)))).drew = w6 at *
      change (convert 46 9 (.slice (some ⟨g, 0, none⟩) (mk (frameL t.data.toList)).size cap)).run Tryd.prog w6 = .ok (.string (mk ((frameL t.data.toList).set (4 + p2) (old ^^^ UInt8.ofNat (2 ^ p3))))) w6 at hrs
      generalize mk ((frameL t.data.toList).set (4 + p2) (old ^^^ UInt8.ofNat (2 ^ p3))) = Z at *
      rw [hrs]
      simp only [Result.andThen]
      rw [Oper.upon_value]
      go_wp2_with (go_at_call 26; (with_reducible refine (HU2.out _ (hT.below hbl6 h0)).mono ?_); rintro e w7 ⟨rfl, hb7⟩; have hbl7 := hbl6.trans (hb7.mono hbl6.size))
      go_ret
      exact ⟨rfl, hbl7⟩

namespace rowCodecCuts
open Go.ChangeShapes Go.WideShapes Go.ChangeAt Go.RowKit
open Go.WideMaps Go.WideElems
open Go.ChangeMaps (open_string shut_string)
theorem contract (H : Type) (enc : TypeId × Value → H) (W : World) (base : Nat) (args : Array Value) (ds gs : List (DataW H)) (before : List MemPlace)
    (hval : ∀ (j : Nat) t v, Tryd.f7.params[j]? = some t → args[j]? = some v → Value.okWide Tryd.prog W .any base t v)
    (hW : DataW.Whole enc Tryd.prog Tryd.f7.params.toList Rows.codecCutsSpec.vars false W args.toList ds gs before) (hL : laidMetH Tryd.prog Rows.codecCutsRow.laid W) :
    Calls Tryd.prog 7 args W fun e W' => ∃ v, e = .returned v ∧ Rows.codecCutsSpec.post enc Tryd.prog Tryd.f7 false true false false W args v W' := by
  have hW' := hW
  obtain ⟨p, q, hA0, hV, rfl, hfz, hnd⟩ := hW
  have hlt := hW'.lt
  have hA : DataW.TrodAll enc Tryd.prog W 0 (fun _ => true) true Tryd.f7.params.toList args.toList ds p := hA0
  rw [Tryd.params7] at hA hval
  obtain ⟨v0, vs0, d0, ds0, p0, q0, hargs, rfl, rfl, h0, r0⟩ := trodAll_cons hA
  obtain ⟨v1, vs1, d1, ds1, p1, q1, rfl, rfl, rfl, h1, r1⟩ := trodAll_cons r0
  obtain ⟨v2, vs2, d2, ds2, p2, q2, rfl, rfl, rfl, h2, r2⟩ := trodAll_cons r1
  obtain ⟨rfl, rfl, rfl⟩ := trodAll_nil r2
  obtain rfl : args = #[v0, v1, v2] := by cases args; simp_all
  obtain ⟨rfl, rfl⟩ := trodVars_none hV
  have hpost : ∀ W', Below W.heap.size W W' → Rows.codecCutsSpec.post enc Tryd.prog Tryd.f7 false true false false W #[v0, v1, v2] (.bool true) W' := fun W' hb => law_post hW' hb rfl (by rw [Tryd.params7]; simp only [List.forall_mem_cons]; exact ⟨okTy (by kernel_rfl) (by kernel_rfl), okTy (by kernel_rfl) (by kernel_rfl), okTy (by kernel_rfl) (by kernel_rfl), fun _ h => by cases h⟩) (by kernel_rfl) ⟨rfl, rfl, rfl⟩
  suffices hc : Calls Tryd.prog 7 #[v0, v1, v2] W fun e W' => e = .returned (.bool true) ∧ Below W.heap.size W W' from hc.mono fun e W' ⟨he, hb⟩ => ⟨_, he, hpost W' hb⟩
  clear hpost
  obtain ⟨hS, h0W⟩ := steps_of hL
  obtain ⟨a0, rfl, rfl, rfl, w0⟩ := open_string Tryd.underlying9 (hval 0 9 v0 rfl rfl) h0
  obtain ⟨a1, rfl, rfl, rfl, w1⟩ := open_int Tryd.underlying3 (hval 1 3 v1 rfl rfl) h1
  obtain ⟨a2, rfl, rfl, rfl, w2⟩ := open_int Tryd.underlying3 (hval 2 3 v2 rfl rfl) h2
  have b1 : -9223372036854775808 ≤ a1 ∧ a1 ≤ 9223372036854775807 := by simpa [Lit.wf, IntKind.min, IntKind.max, IntKind.signed, IntKind.bits] using w1
  have b2 : -9223372036854775808 ≤ a2 ∧ a2 ≤ 9223372036854775807 := by simpa [Lit.wf, IntKind.min, IntKind.max, IntKind.signed, IntKind.bits] using w2
  exact codecCuts_walk a0 a1 a2 W hS h0W w0 b1 b2

theorem laid_met (os : Os) : laidMet Tryd.prog Rows.codecCutsRow.laid ((laidWorld os).forCall (fun _ _ => 0) ⟨#[], #[.string ⟨#[]⟩, .int .i64 0, .int .i64 0], []⟩).memory :=
  laidMet_of_run' 8 (by kernel_rfl) (by kernel_rfl)
theorem reads (os : Os) {H : Type} (enc : TypeId × Value → H) : ∃ places, DataW.whole enc Tryd.prog ((laidWorld os).forCall (fun _ _ => 0) ⟨#[], #[.string ⟨#[]⟩, .int .i64 0, .int .i64 0], []⟩).memory Tryd.f7.params.toList Rows.codecCutsSpec.vars false (#[.string ⟨#[]⟩, .int .i64 0, .int .i64 0] : Array Value).toList 8 = some ([.lit (.string []), .lit (.int .i64 0), .lit (.int .i64 0)], [], places) :=
  ⟨[], by kernel_rfl⟩
set_option maxRecDepth 100000 in
theorem lifted (os : Os) (started : os.Started) (H : Type) (enc : TypeId × Value → H) (F : Stop.Interp) :
    ReturnsInHanded {} Tryd.checked os 7 .any ((OpenSpec.ofChange Rows.codecCutsSpec).preRow enc Tryd.prog Tryd.f7 Rows.codecCutsRow.domain false Rows.codecCutsRow.laid) (((OpenSpec.ofChange Rows.codecCutsSpec).at F).post enc Tryd.prog Tryd.f7 false true false false) := by
  obtain ⟨places, hx⟩ := reads os enc
  refine returnsInHanded_of_row (C := Tryd.checked) (s := OpenSpec.ofChange Rows.codecCutsSpec) own started (by kernel_rfl) Tryd.func7
    (witness_row_at (enc := enc) (C := Tryd.checked) false (laidWorld os) #[.string ⟨#[]⟩, .int .i64 0, .int .i64 0] rfl (by kernel_rfl) (by kernel_rfl) (by kernel_rfl)
      (OpenSpec.preRow_of_cond 8 hx (by kernel_rfl) (fun k hk => by cases hk) (by kernel_rfl) (laid_met os))) ?_
  intro W base args ds gs before hval hW _ _ _ hL _ _
  exact contract H enc W base args ds gs before hval hW hL
theorem said : Rows.CodecCutsSaid :=
  OpenClaim.holds_of_cond 7 Tryd.f7 rfl rfl rfl rfl rfl rfl rfl ⟨rfl, rfl, rfl, rfl, rfl⟩ rfl rfl rfl rfl rfl (by kernel_rfl) Tryd.func7 (by kernel_rfl)
    (of_decide_eq_true (by kernel_rfl)) (by unfold Func.isWrapper; first | (rw [if_pos (by decide +kernel)]; kernel_rfl) | (rw [if_neg (by decide +kernel)]; exact ⟨rfl, rfl⟩))
    (fun os started H enc _ F => by rw [OpenClaim.pre_eq_preRow]; exact lifted os started H enc F)
theorem plain (f : FuncId) (fn : Func) (hf : Tryd.pinned.checked.prog.funcNamed "kiosk/kiosklaw1.CodecCuts" = some f) (hfn : Tryd.pinned.checked.prog.funcs[f]? = some fn) :
    false = Tryd.pinned.checked.prog.looks [] ∧ ∀ (j : Nat) t, fn.params[j]? = some t → Tryd.pinned.checked.prog.wantsStandIn t = false := by
  obtain rfl : f = 7 := Option.some.inj ((show Tryd.prog.funcNamed "kiosk/kiosklaw1.CodecCuts" = some 7 by kernel_rfl).symm.trans hf) |>.symm
  obtain rfl : fn = Tryd.f7 := (Option.some.inj (Tryd.func7.symm.trans hfn)).symm
  refine ⟨by kernel_rfl, fun j t ht => ?_⟩
  rw [Tryd.params7] at ht
  have hall : ∀ t ∈ ([9, 3, 3] : List TypeId), Tryd.prog.wantsStandIn t = false := by simp only [List.forall_mem_cons]; exact ⟨(by kernel_rfl), (by kernel_rfl), (by kernel_rfl), fun _ h => by cases h⟩
  exact hall t (by simpa using Array.mem_of_getElem? ht)
theorem card : Rows.CodecCutsCardSaid :=
  Claim7.holds_tied_plain_at .later [] _ _ _ _ said (fun _ h => by cases h) (by kernel_rfl) (fun _ h => by cases h) codecCuts_row_tie rfl ⟨rfl, rfl⟩ (by kernel_rfl) rfl plain (by kernel_rfl)
end rowCodecCuts
end Go.Proofs.YtpfchdplcbjfdaaDoor
