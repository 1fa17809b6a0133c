/-
  LAYER 1, the law CodecSums: the sum of three texts of one length, laid over one another, is that of their sums. No condition but the table that the row lists.
-/
import Derived.Test.YtpfchdplcbjfdaaDoorShown1
import Derived.Test.YtpfchdplcbjfdaaDoorLaid1
import Derived.Test.YtpfchdplcbjfdaaDoorArgs
namespace Go.Proofs.YtpfchdplcbjfdaaDoor
open Go.RowKit
set_option linter.unusedVariables false


theorem set_step {X : List UInt8} {n k : Nat} (hX : X.length = n) (hk : k < n) (c : UInt8) (hc : X[k]? = some c) :
    (X.take k ++ List.replicate (n - k) 0).set k c = X.take (k + 1) ++ List.replicate (n - (k + 1)) 0 := by
  have hkX : k < X.length := by omega
  have h1 : (X.take k).length = k := by rw [List.length_take]; omega
  have h2 : List.replicate (n - k) (0 : UInt8) = 0 :: List.replicate (n - (k + 1)) 0 := by rw [show n - k = (n - (k + 1)) + 1 by omega, List.replicate_succ]
  rw [h2, List.set_append, if_neg (by omega), h1, Nat.sub_self, List.set_cons_zero, List.take_succ_eq_append_getElem hkX, List.append_assoc]
  rw [List.getElem?_eq_getElem hkX] at hc
  rw [Option.some.inj hc]; rfl

/-- The checksum of bytes, by what it is. -/
theorem crc_is (s : ByteArray) (hs : s.size ≤ maxLen) (r : Nat) (h : crc s.data.toList = r) (w : World) (hT : Steps w) :
    Calls Tryd.prog 28 #[.string s] w fun e w' => e = .returned (.int .u32 r) ∧ w = w' := by
  subst h; exact crc_any s w hs hT

set_option maxHeartbeats 4000000 in
set_option maxRecDepth 100000 in
theorem codecSums_walk (a b c : ByteArray) (w : World) (hT : Steps w) (h0 : 0 < w.heap.size) (ha : a.size ≤ maxLen) (hb : b.size ≤ maxLen) (hc : c.size ≤ maxLen) :
    Calls Tryd.prog 9 #[.string a, .string b, .string c] w fun e w' => e = .returned (.bool true) ∧ Below w.heap.size w w' := by
  have HSH := hid (shown_any w hT h0)
  obtain ⟨n, hmin, hna, hnb, hnc⟩ : ∃ n : Nat, min (a.size : Int) (min (b.size : Int) (c.size : Int)) = (n : Int) ∧ n ≤ a.size ∧ n ≤ b.size ∧ n ≤ c.size := ⟨min a.size (min b.size c.size), by omega, by omega, by omega, by omega⟩
  unfold maxLen at *
  by_cases hlong : 3000 < n
  · go_enter Tryd.func9, Tryd.ntmps9
    go_wp2_with (go_at_call 11; (with_reducible refine HSH.out.mono ?_); rintro e w1 ⟨rfl, hb⟩)
    go_ret
    exact ⟨rfl, hb⟩
  · have la : (a.data.toList.take n).length = n := take_len a n hna
    have lb : (b.data.toList.take n).length = n := take_len b n hnb
    have lc : (c.data.toList.take n).length = n := take_len c n hnc
    have hXl := xor3_length (a.data.toList.take n) (b.data.toList.take n) (c.data.toList.take n) (by omega) (by omega)
    rw [la] at hXl
    have hXg := xor3_get (a.data.toList.take n) (b.data.toList.take n) (c.data.toList.take n)
    have hXc := crc_xor3 (a.data.toList.take n) (b.data.toList.take n) (c.data.toList.take n) (by omega) (by omega)
    have l1 := fun wx => slice_h (s := a) (hi := (n : Int)) (l := a.data.toList.take n) (by omega) (by omega) rfl wx
    have l2 := fun wx => slice_h (s := b) (hi := (n : Int)) (l := b.data.toList.take n) (by omega) (by omega) rfl wx
    have l3 := fun wx => slice_h (s := c) (hi := (n : Int)) (l := c.data.toList.take n) (by omega) (by omega) rfl wx
    have hcA := crc_lt (a.data.toList.take n)
    have hcB := crc_lt (b.data.toList.take n)
    have hcC := crc_lt (c.data.toList.take n)
    have HCA := hid (fun W h => crc_is (mk (a.data.toList.take n)) (by rw [mk_size, la]; unfold maxLen; omega) _ rfl W h)
    have HCB := hid (fun W h => crc_is (mk (b.data.toList.take n)) (by rw [mk_size, lb]; unfold maxLen; omega) _ rfl W h)
    have HCC := hid (fun W h => crc_is (mk (c.data.toList.take n)) (by rw [mk_size, lc]; unfold maxLen; omega) _ rfl W h)
    rw [mk_data] at HCA HCB HCC
    have ga : ∀ k (hk : k < n), (a.data.toList.take n)[k]? = some (a[k]'(Nat.lt_of_lt_of_le hk hna)) := fun k hk => by rw [List.getElem?_take_of_lt hk, List.getElem?_eq_getElem (by rw [str_len]; exact Nat.lt_of_lt_of_le hk hna)]; rfl
    have gb : ∀ k (hk : k < n), (b.data.toList.take n)[k]? = some (b[k]'(Nat.lt_of_lt_of_le hk hnb)) := fun k hk => by rw [List.getElem?_take_of_lt hk, List.getElem?_eq_getElem (by rw [str_len]; exact Nat.lt_of_lt_of_le hk hnb)]; rfl
    have gc : ∀ k (hk : k < n), (c.data.toList.take n)[k]? = some (c[k]'(Nat.lt_of_lt_of_le hk hnc)) := fun k hk => by rw [List.getElem?_take_of_lt hk, List.getElem?_eq_getElem (by rw [str_len]; exact Nat.lt_of_lt_of_le hk hnc)]; rfl
    have hXk : ∀ k (hk : k < n), (xor3 (a.data.toList.take n) (b.data.toList.take n) (c.data.toList.take n))[k]? = some ((a[k]'(Nat.lt_of_lt_of_le hk hna)) ^^^ (b[k]'(Nat.lt_of_lt_of_le hk hnb)) ^^^ (c[k]'(Nat.lt_of_lt_of_le hk hnc))) := fun k hk => hXg k _ _ _ (ga k hk) (gb k hk) (gc k hk)
    have HCX := hid (fun W h => crc_is (mk (xor3 (a.data.toList.take n) (b.data.toList.take n) (c.data.toList.take n))) (by rw [mk_size, hXl]; unfold maxLen; omega) (crc (a.data.toList.take n) ^^^ crc (b.data.toList.take n) ^^^ crc (c.data.toList.take n)) hXc W h)
    have HXK := hid hXk
    have HXL := hid hXl
    clear hXg hXc ga gb gc hXk la lb lc hXl
    generalize xor3 (a.data.toList.take n) (b.data.toList.take n) (c.data.toList.take n) = X at *
    generalize mk (a.data.toList.take n) = A at *
    generalize mk (b.data.toList.take n) = B at *
    generalize mk (c.data.toList.take n) = C at *
    generalize crc (a.data.toList.take n) = ca at *
    generalize crc (b.data.toList.take n) = cb at *
    generalize crc (c.data.toList.take n) = cc at *
    have x1 : bits .xor .u32 (ca : Int) (cb : Int) = ((ca ^^^ cb : Nat) : Int) := u32_xor_nat ca cb hcA hcB
    have x2 : bits .xor .u32 ((ca ^^^ cb : Nat) : Int) (cc : Int) = ((ca ^^^ cb ^^^ cc : Nat) : Int) := u32_xor_nat _ cc (Nat.xor_lt_two_pow (n := 32) hcA hcB) hcC
    go_enter Tryd.func9, Tryd.ntmps9
    go_wp2_with (go_at_call 11; (with_reducible refine HSH.out.mono ?_); rintro e w1 ⟨rfl, hb⟩)
    obtain ⟨w2, hrun, hby, hb2, hsz⟩ := make_bytes w1 w.heap.size n hb.size (by omega)
    have hbb := hb.trans (hb2.mono hb.size)
    have HBY := hid hby
    have hg0 := hb.size
    clear hby hsz
    rw [hrun]
    simp only [Result.andThen]
    rw [Oper.upon_value]
    go_wp2_with fail
    generalize w1.heap.size = g at *
    clear hrun hb2
    go_loopw [10] (fun i wr => ∃ k : Nat, k ≤ n ∧ i = .int .i64 k ∧ Hid (Bytes wr w.heap.size (.slice (some ⟨g, 0, none⟩) n n) (X.take k ++ List.replicate (n - k) 0)) ∧ Below w.heap.size w wr) (fun i _ => n - (intOf i).toNat)
    case atStart => exact ⟨0, Nat.zero_le _, rfl, hid (by simpa using HBY.out), hbb⟩
    case round =>
      obtain ⟨k, hk, rfl, hI, hbl⟩ := hrel
      by_cases hlt : k < n
      · have ja : k < a.size := by omega
        have jb : k < b.size := by omega
        have jc : k < c.size := by omega
        have hll : (X.take k ++ List.replicate (n - k) (0 : UInt8)).length = n := by rw [List.length_append, List.length_take, List.length_replicate, HXL.out]; omega
        have hB : Bytes wr w.heap.size (.slice (some ⟨g, 0, none⟩) (X.take k ++ List.replicate (n - k) (0 : UInt8)).length n) (X.take k ++ List.replicate (n - k) 0) := by rw [hll]; exact hI.out
        have hst := hB.set k (by rw [hll]; exact hlt) ((a[k]'ja) ^^^ (b[k]'jb) ^^^ (c[k]'jc)) _ rfl
        rw [set_step HXL.out hlt _ (HXK.out k hlt), hll] at hst
        obtain ⟨g', cap', hv', _, _, _, _, hcell, hfz⟩ := hB.shape (by intro h; rw [h] at hll; simp at hll; omega)
        cases hv'
        have c1 := hcell k 0 (by rw [List.getElem?_append_right (by rw [List.length_take]; omega), List.length_take, HXL.out, List.getElem?_replicate, if_pos (by omega)])
        have f1 := hfz k
        have HST := hid hst
        clear hst hB hcell hfz hll
        have e1 : bits .xor .u8 ((a[k]'ja).toNat : Int) ((b[k]'jb).toNat : Int) = (((a[k]'ja).toNat ^^^ (b[k]'jb).toNat : Nat) : Int) := u8_xor_nat _ _ (a[k]'ja).toNat_lt (b[k]'jb).toNat_lt
        have e2 : bits .xor .u8 (((a[k]'ja).toNat ^^^ (b[k]'jb).toNat : Nat) : Int) ((c[k]'jc).toNat : Int) = (((a[k]'ja).toNat ^^^ (b[k]'jb).toNat ^^^ (c[k]'jc).toNat : Nat) : Int) := u8_xor_nat _ _ (Nat.xor_lt_two_pow (n := 8) (a[k]'ja).toNat_lt (b[k]'jb).toNat_lt) (c[k]'jc).toNat_lt
        have ka : (k : Int) < (a.size : Int) := by omega
        have kb : (k : Int) < (b.size : Int) := by omega
        have kc : (k : Int) < (c.size : Int) := by omega
        rw [UInt8.toNat_xor, UInt8.toNat_xor] at HST
        go_wp2_with fail
        go_region
        go_wp2_with fail
        go_roundw
        case rel => exact ⟨k + 1, by omega, by go_num, HST, (hbl.setCell (p := ⟨g, k, none⟩) hg0 _).drew⟩
        case measure => simp [intOf]; omega
      · have hkn : k = n := by omega
        subst hkn
        have hB := hI.out
        rw [Nat.sub_self, List.replicate_zero, List.append_nil, List.take_of_length_le (by have := HXL.out; omega)] at hB
        have hrs : ∀ m, (convert 46 9 (.slice (some ⟨g, 0, none⟩) k k)).run Tryd.prog (wr.drewN m) = .ok (.string (mk X)) (wr.drewN m) := by
          intro m
          by_cases h0 : X = []
          · have hk0 : k = 0 := by have := HXL.out; rw [h0] at this; simpa using this.symm
            rw [h0]
            exact run_string (l := []) hk0 (fun j c hj => by simp at hj)
          · have hB2 : Bytes wr w.heap.size (.slice (some ⟨g, 0, none⟩) k k) X := hB
            obtain ⟨g', cap', hv', _, _, _, _, hcell, _⟩ := hB2.shape h0
            cases hv'
            exact run_string (w := wr.drewN m) HXL.out.symm hcell
        have hS := hid (hT.below hbl h0)
        clear hB
        go_wp2_with fail
        have hrs0 := hrs 1
        change (convert 46 9 (.slice (some ⟨g, 0, none⟩) k k)).run Tryd.prog wr.drew = .ok (.string (mk X)) wr.drew at hrs0
        clear hrs
        go_region_with (go_at_call 28; first | ((with_reducible refine (HCA.out _ hS.out.drew).mono ?_); rintro e w2 ⟨rfl, rfl⟩) | ((with_reducible refine (HCB.out _ hS.out.drew).mono ?_); rintro e w2 ⟨rfl, rfl⟩) | ((with_reducible refine (HCC.out _ hS.out.drew).mono ?_); rintro e w2 ⟨rfl, rfl⟩) | ((with_reducible refine (HCX.out _ hS.out.drew).mono ?_); rintro e w2 ⟨rfl, rfl⟩))
        go_wp2_with fail
        go_ret
        exact ⟨rfl, hbl.drew⟩

namespace rowCodecSums
open Go.ChangeShapes Go.WideShapes Go.ChangeAt Go.RowKit
open Go.WideMaps Go.WideElems
open Go.ChangeMaps (open_string shut_string)
theorem contract (H : Type) (enc : TypeId × Value → H) (W : World) (base : Nat) (args : Array Value) (ds gs : List (DataW H)) (before : List MemPlace)
    (hval : ∀ (j : Nat) t v, Tryd.f9.params[j]? = some t → args[j]? = some v → Value.okWide Tryd.prog W .any base t v)
    (hW : DataW.Whole enc Tryd.prog Tryd.f9.params.toList Rows.codecSumsSpec.vars false W args.toList ds gs before) (hL : laidMetH Tryd.prog Rows.codecSumsRow.laid W) :
    Calls Tryd.prog 9 args W fun e W' => ∃ v, e = .returned v ∧ Rows.codecSumsSpec.post enc Tryd.prog Tryd.f9 false true false false W args v W' := by
  have hW' := hW
  obtain ⟨p, q, hA0, hV, rfl, hfz, hnd⟩ := hW
  have hlt := hW'.lt
  have hA : DataW.TrodAll enc Tryd.prog W 0 (fun _ => true) true Tryd.f9.params.toList args.toList ds p := hA0
  rw [Tryd.params9] at hA hval
  obtain ⟨v0, vs0, d0, ds0, p0, q0, hargs, rfl, rfl, h0, r0⟩ := trodAll_cons hA
  obtain ⟨v1, vs1, d1, ds1, p1, q1, rfl, rfl, rfl, h1, r1⟩ := trodAll_cons r0
  obtain ⟨v2, vs2, d2, ds2, p2, q2, rfl, rfl, rfl, h2, r2⟩ := trodAll_cons r1
  obtain ⟨rfl, rfl, rfl⟩ := trodAll_nil r2
  obtain rfl : args = #[v0, v1, v2] := by cases args; simp_all
  obtain ⟨rfl, rfl⟩ := trodVars_none hV
  have hpost : ∀ W', Below W.heap.size W W' → Rows.codecSumsSpec.post enc Tryd.prog Tryd.f9 false true false false W #[v0, v1, v2] (.bool true) W' := fun W' hb => law_post hW' hb rfl (by rw [Tryd.params9]; simp only [List.forall_mem_cons]; exact ⟨okTy (by kernel_rfl) (by kernel_rfl), okTy (by kernel_rfl) (by kernel_rfl), okTy (by kernel_rfl) (by kernel_rfl), fun _ h => by cases h⟩) (by kernel_rfl) ⟨rfl, rfl, rfl⟩
  suffices hc : Calls Tryd.prog 9 #[v0, v1, v2] W fun e W' => e = .returned (.bool true) ∧ Below W.heap.size W W' from hc.mono fun e W' ⟨he, hb⟩ => ⟨_, he, hpost W' hb⟩
  clear hpost
  obtain ⟨hS, h0W⟩ := steps_of hL
  obtain ⟨a0, rfl, rfl, rfl, w0⟩ := open_string Tryd.underlying9 (hval 0 9 v0 rfl rfl) h0
  obtain ⟨a1, rfl, rfl, rfl, w1⟩ := open_string Tryd.underlying9 (hval 1 9 v1 rfl rfl) h1
  obtain ⟨a2, rfl, rfl, rfl, w2⟩ := open_string Tryd.underlying9 (hval 2 9 v2 rfl rfl) h2
  exact codecSums_walk a0 a1 a2 W hS h0W w0 w1 w2

theorem laid_met (os : Os) : laidMet Tryd.prog Rows.codecSumsRow.laid ((laidWorld os).forCall (fun _ _ => 0) ⟨#[], #[.string ⟨#[]⟩, .string ⟨#[]⟩, .string ⟨#[]⟩], []⟩).memory :=
  laidMet_of_run' 8 (by kernel_rfl) (by kernel_rfl)
theorem reads (os : Os) {H : Type} (enc : TypeId × Value → H) : ∃ places, DataW.whole enc Tryd.prog ((laidWorld os).forCall (fun _ _ => 0) ⟨#[], #[.string ⟨#[]⟩, .string ⟨#[]⟩, .string ⟨#[]⟩], []⟩).memory Tryd.f9.params.toList Rows.codecSumsSpec.vars false (#[.string ⟨#[]⟩, .string ⟨#[]⟩, .string ⟨#[]⟩] : Array Value).toList 8 = some ([.lit (.string []), .lit (.string []), .lit (.string [])], [], places) :=
  ⟨[], by kernel_rfl⟩
set_option maxRecDepth 100000 in
theorem lifted (os : Os) (started : os.Started) (H : Type) (enc : TypeId × Value → H) (F : Stop.Interp) :
    ReturnsInHanded {} Tryd.checked os 9 .any ((OpenSpec.ofChange Rows.codecSumsSpec).preRow enc Tryd.prog Tryd.f9 Rows.codecSumsRow.domain false Rows.codecSumsRow.laid) (((OpenSpec.ofChange Rows.codecSumsSpec).at F).post enc Tryd.prog Tryd.f9 false true false false) := by
  obtain ⟨places, hx⟩ := reads os enc
  refine returnsInHanded_of_row (C := Tryd.checked) (s := OpenSpec.ofChange Rows.codecSumsSpec) own started (by kernel_rfl) Tryd.func9
    (witness_row_at (enc := enc) (C := Tryd.checked) false (laidWorld os) #[.string ⟨#[]⟩, .string ⟨#[]⟩, .string ⟨#[]⟩] rfl (by kernel_rfl) (by kernel_rfl) (by kernel_rfl)
      (OpenSpec.preRow_of_cond 8 hx (by kernel_rfl) (fun k hk => by cases hk) (by kernel_rfl) (laid_met os))) ?_
  intro W base args ds gs before hval hW _ _ _ hL _ _
  exact contract H enc W base args ds gs before hval hW hL
theorem said : Rows.CodecSumsSaid :=
  OpenClaim.holds_of_cond 9 Tryd.f9 rfl rfl rfl rfl rfl rfl rfl ⟨rfl, rfl, rfl, rfl, rfl⟩ rfl rfl rfl rfl rfl (by kernel_rfl) Tryd.func9 (by kernel_rfl)
    (of_decide_eq_true (by kernel_rfl)) (by unfold Func.isWrapper; first | (rw [if_pos (by decide +kernel)]; kernel_rfl) | (rw [if_neg (by decide +kernel)]; exact ⟨rfl, rfl⟩))
    (fun os started H enc _ F => by rw [OpenClaim.pre_eq_preRow]; exact lifted os started H enc F)
theorem plain (f : FuncId) (fn : Func) (hf : Tryd.pinned.checked.prog.funcNamed "kiosk/kiosklaw1.CodecSums" = some f) (hfn : Tryd.pinned.checked.prog.funcs[f]? = some fn) :
    false = Tryd.pinned.checked.prog.looks [] ∧ ∀ (j : Nat) t, fn.params[j]? = some t → Tryd.pinned.checked.prog.wantsStandIn t = false := by
  obtain rfl : f = 9 := Option.some.inj ((show Tryd.prog.funcNamed "kiosk/kiosklaw1.CodecSums" = some 9 by kernel_rfl).symm.trans hf) |>.symm
  obtain rfl : fn = Tryd.f9 := (Option.some.inj (Tryd.func9.symm.trans hfn)).symm
  refine ⟨by kernel_rfl, fun j t ht => ?_⟩
  rw [Tryd.params9] at ht
  have hall : ∀ t ∈ ([9, 9, 9] : List TypeId), Tryd.prog.wantsStandIn t = false := by simp only [List.forall_mem_cons]; exact ⟨(by kernel_rfl), (by kernel_rfl), (by kernel_rfl), fun _ h => by cases h⟩
  exact hall t (by simpa using Array.mem_of_getElem? ht)
theorem card : Rows.CodecSumsCardSaid :=
  Claim7.holds_tied_plain_at .later [] _ _ _ _ said (fun _ h => by cases h) (by kernel_rfl) (fun _ h => by cases h) codecSums_row_tie rfl ⟨rfl, rfl⟩ (by kernel_rfl) rfl plain (by kernel_rfl)
end rowCodecSums
end Go.Proofs.YtpfchdplcbjfdaaDoor
