import Derived.Test.YtpcafkinpkepcaaGreatDoorWq2
import Derived.Test.YtpcafkinpkepcaaGreatDoorWq3
import Derived.Test.YtpcafkinpkepcaaGreatDoorWq4
import Derived.WalkKit
import Derived.Deep.QuietTactic
import Derived.BigQuiet
import Derived.Deep.RegionWith
import Derived.Test.YtpcafkinpkepcaaGreatDoorRows
import Derived.ProofKit
import Derived.OpenShut
import Derived.Carry
import Derived.Test.YtpcafkinpkepcaaGreatDoorWq1
/-
  Wq5: Num, Law, Sl, in one text.
-/
/-
  LAYER 1: numbers: what the program's and the document's functions that write them return.
-/
namespace Go.Proofs.YtpcafkinpkepcaaGreatDoor
open Go.RowKit
set_option linter.unusedVariables false
set_option maxRecDepth 100000

theorem zigzag_any (n : Int) (w : World) (h0 : -9223372036854775808 ≤ n) (h1 : n ≤ 9223372036854775807) :
    Calls Tryz.prog 214 #[.int .i64 n] w fun e w' => e = .returned (.int .u64 (nat64 n)) ∧ w = w' := by
  have HZ := hid (zig_bits h0 h1)
  go_enter Tryz.func214, Tryz.ntmps214
  go_wp2
  all_goals go_ret
  all_goals exact ⟨by rw [← HZ.out]; rfl, rfl⟩

theorem unzigzag_any (v : Nat) (w : World) (h1 : v < 18446744073709551616) :
    Calls Tryz.prog 211 #[.int .u64 v] w fun e w' => e = .returned (.int .i64 (unz v)) ∧ w = w' := by
  have HZ := hid (unz_bits h1)
  go_enter Tryz.func211, Tryz.ntmps211
  go_wp2
  all_goals go_ret
  all_goals exact ⟨by rw [← HZ.out]; rfl, rfl⟩

theorem natural_any (n : Int) (w : World) (h0 : -9223372036854775808 ≤ n) (h1 : n ≤ 9223372036854775807) :
    Calls Tryz.prog 198 #[.int .i64 n] w fun e w' => e = .returned (.int .u64 (nat64 n)) ∧ w = w' := by
  by_cases hn : 0 ≤ n
  · have HZ : Hid ((nat64 n : Int) = 2 * n) := hid (by unfold nat64; rw [if_pos hn]; omega)
    go_enter Tryz.func198, Tryz.ntmps198
    go_wp2
    all_goals go_ret
    all_goals exact ⟨by rw [HZ.out]; rfl, rfl⟩
  · have HZ : Hid ((nat64 n : Int) = 2 * -(n + 1) + 1) := hid (by unfold nat64; rw [if_neg hn]; omega)
    go_enter Tryz.func198, Tryz.ntmps198
    go_wp2
    all_goals go_ret
    all_goals exact ⟨by rw [HZ.out]; rfl, rfl⟩

theorem len64_nat (x : Nat) (w : World) (h : x < 18446744073709551616) :
    Calls Tryz.prog 181 #[.int .u64 (x : Int)] w fun e w' => e = .returned (.int .i64 ((Lib.bitLen x : Nat) : Int)) ∧ w = w' :=
  (bits_Len64 (x : Int) w (by omega) (by omega)).mono fun e w' ⟨he, hw⟩ => ⟨he, hw.symm⟩

set_option maxHeartbeats 1000000 in
set_option maxRecDepth 100000 in
/-- (*output).number writes a number behind what the builder holds. -/
theorem number_any {T : TypeId} (hT : BlkOk T) (B b : Nat) (l : List UInt8) (n : Int) (w : World) (h0 : -9223372036854775808 ≤ n) (h1 : n ≤ 9223372036854775807) (h : Lib.IsBuilder T 5 B b (Lib.byteCells l) w) (hlen : l.length + 10 ≤ 140737488355328) (hBw : B ≤ w.heap.size) :
    Calls Tryz.prog 193 #[.pointer (some ⟨b, 0, none⟩), .int .i64 n] w fun e w' => e = .returned (.tuple #[]) ∧ Lib.IsBuilder T 5 B b (Lib.byteCells (l ++ enc (nat64 n))) w' ∧ Below B w w' := by
  have hu := nat64_lt h0 h1
  have HZ := zigzag_any n w h0 h1
  generalize nat64 n = v at *
  have ho : v ||| 1 < 18446744073709551616 := by have := or_one v; omega
  have e1 : bits .or .u64 (v : Int) 1 = ((v ||| 1 : Nat) : Int) := u64_or_nat v 1 hu (by omega)
  obtain ⟨g1, g2, g3⟩ := lastG_spec hu
  have hgl : ((Lib.bitLen (v ||| 1) : Nat) : Int) - 1 = ((Lib.bitLen (v ||| 1) - 1 : Nat) : Int) := by
    obtain ⟨_, _, b3⟩ := bitLenAux_bounds 64 (v ||| 1) (by have := or_one v; omega) (by rw [show 2 ^ 64 = 18446744073709551616 from rfl]; exact ho)
    have : Lib.bitLen (v ||| 1) = Lib.bitLenAux 64 (v ||| 1) := rfl
    omega
  have e2 : (((Lib.bitLen (v ||| 1) : Nat) : Int) - 1) / 7 = (lastG v : Int) := by rw [hgl]; unfold lastG; omega
  have L64 := fun w => len64_nat (v ||| 1) w ho
  have hb1 : Lib.bitLen (v ||| 1) ≤ 80 ∧ 1 ≤ Lib.bitLen (v ||| 1) := by
    unfold lastG at g1; omega
  generalize lastG v = G at *
  generalize Lib.bitLen (v ||| 1) = L at *
  have H2 := hid g2
  have H3 := hid g3
  have HL := hid L64
  have HB := hid h
  have HZ' := hid HZ
  have HE2 := hid e2
  have hLG : ((L : Int) - 1) / 7 ≤ 9 ∧ 0 ≤ ((L : Int) - 1) / 7 := by omega
  clear g2 g3 L64 h HZ hgl e2
  go_enter Tryz.func193, Tryz.ntmps193
  go_wp2_with (first
    | (go_at_call 214; refine HZ'.out.mono ?_; rintro e w' ⟨rfl, rfl⟩)
    | (go_at_call 181; refine (HL.out _).mono ?_; rintro e w' ⟨rfl, rfl⟩))
  go_loopw [6] (fun i wr => ∃ j : Nat, j ≤ G ∧ i = .int .i64 (7 * j) ∧ Hid (Lib.IsBuilder T 5 B b (Lib.byteCells (l ++ encC (v / 128 ^ (j + 1)))) wr) ∧ Below B w wr) (fun i _ => (intOf i).toNat)
  case atStart => exact ⟨G, Nat.le_refl _, by (have := HE2.out; congr 1; omega), hid (by rw [H2.out, encC_zero, List.append_nil]; exact HB.out), Below.refl _ _⟩
  case round =>
    obtain ⟨j, hj, rfl, hI, hbl⟩ := hrel
    by_cases hj0 : j = 0
    · subst hj0
      have e4 : bits .andNot .u8 ((v : Int) % 256) 128 = ((v % 128 : Nat) : Int) := by
        rw [show (v : Int) % 256 = ((v % 256 : Nat) : Int) by omega]
        have h := u8_andNot_nat (v % 256) 128 (by omega) (by omega)
        rw [show 255 - 128 = 127 from rfl, nat_mask7] at h
        rw [show ((128 : Nat) : Int) = 128 from rfl] at h
        rw [h]; omega
      have hl2 := encC_length 9 (v / 128) (by omega)
      go_wp2_with (go_at_call 215; refine (writeByte_nat hT B b (l ++ encC (v / 128)) (v % 128) (by omega) _ (by have := hI.out; simpa using this) (by rw [List.length_append]; omega) (by have := hbl.size; omega)).mono ?_; rintro e w1 ⟨rfl, h1, hb2⟩)
      go_end0
      exact ⟨rfl, by rw [enc, ← List.append_assoc]; exact h1, hbl.trans hb2⟩
    · have e3 : bits .or .u8 (IntKind.u8.wrap ((v : Int) / 2 ^ (7 * (j : Int)).toNat)) 128 = ((128 + v / 128 ^ j % 128 : Nat) : Int) := by
        rw [show (7 * (j : Int)).toNat = 7 * j by omega, IntKind.wrap_u8', show ((v : Int) / 2 ^ (7 * j)) % 256 = ((v / 2 ^ (7 * j) % 256 : Nat) : Int) by rw [Int.natCast_emod, Int.natCast_ediv, Int.natCast_pow]; rfl, Nat.pow_mul, show 2 ^ 7 = 128 from rfl]
        generalize v / 128 ^ j = y
        have h := u8_or_nat (y % 256) 128 (by omega) (by omega)
        rw [show ((128 : Nat) : Int) = 128 from rfl] at h
        rw [h]
        have h7 : y % 256 ||| 128 = 128 + y % 128 := by
          have h2 := Nat.or_div_two_pow (a := y % 256) (b := 128) (n := 7)
          have h1 := Nat.or_mod_two_pow (a := y % 256) (b := 128) (n := 7)
          rw [show 2 ^ 7 = 128 from rfl, show 128 % 128 = 0 from rfl, Nat.or_zero] at h1
          rw [show 2 ^ 7 = 128 from rfl, show 128 / 128 = 1 from rfl] at h2
          have : y % 256 / 128 = 0 ∨ y % 256 / 128 = 1 := by omega
          rcases this with h | h
          · rw [h, show 0 ||| 1 = 1 from rfl] at h2; omega
          · rw [h, show 1 ||| 1 = 1 from rfl] at h2; omega
        rw [h7]
      have HE := hid e3
      clear e3
      have hl2 := encC_length 9 (v / 128 ^ (j + 1)) (Nat.lt_of_le_of_lt (Nat.div_le_div_left (show 128 ^ 1 ≤ 128 ^ (j + 1) from Nat.pow_le_pow_right (by omega) (by omega)) (by omega)) (by omega))
      go_wp2_with fail
      go_region_with (go_at_call 215; rw [HE.out]; refine (writeByte_nat hT B b _ (128 + v / 128 ^ j % 128) (by omega) _ (builder_drew hI.out) (by rw [List.length_append]; omega) (by have := hbl.size; simp; omega)).mono ?_; rintro e w1 ⟨rfl, h1, hb2⟩)
      go_wp2
      go_roundw
      case rel =>
        refine ⟨j - 1, by omega, by congr 1; omega, hid ?_, hbl.trans (Below.trans (Below.drew (Below.refl _ _)) hb2)⟩
        rw [show j - 1 + 1 = j by omega, encC_step (H3.out j (by omega) hj), ← List.append_assoc]
        exact h1
      case measure => simp [intOf]; omega
end Go.Proofs.YtpcafkinpkepcaaGreatDoor

/-
  WHAT EVERY LAW's ROW NEEDS: a call that returns true, and leaves all memory that was there as it was, meets the row's specification.
-/
namespace Go.Proofs.YtpcafkinpkepcaaGreatDoor
open Go.ChangeShapes Go.WideShapes Go.ChangeAt Go.RowKit
set_option linter.unusedVariables false
set_option maxRecDepth 100000

theorem laidOut : laidOutB Tryz.prog = true := by kernel_rfl
theorem ownKnobs : ownKnob Tryz.prog.godebug = none := by kernel_rfl

theorem trodAll_stays {H : Type} {enc : TypeId × Value → H} {W W' : World} (hb : Below W.heap.size W W') :
    ∀ (ts : List TypeId) (vs : List Value) (ds : List (DataW H)) (ps : List MemPlace), (∀ t ∈ ts, Tryz.prog.readableRec t = true ∧ t < Tryz.prog.types.size) →
      DataW.TrodAll enc Tryz.prog W 0 (fun _ => true) true ts vs ds ps → (∀ x ∈ ps, x.block < W.heap.size) →
      DataW.TrodAll enc Tryz.prog W' 0 (fun b => decide (b < W.heap.size)) true ts vs ds ps := by
  intro ts
  induction ts with
  | nil =>
    intro vs ds ps _ h _
    obtain ⟨rfl, rfl, rfl⟩ := trodAll_nil h
    exact rfl
  | cons t ts ih =>
    intro vs ds ps ht h hlt
    obtain ⟨v, vs', d, ds', p, q, rfl, rfl, rfl, h1, h2⟩ := trodAll_cons h
    have h3 := ht t (by simp)
    exact ⟨p, q, Below.trod laidOut h3.1 h3.2 h1 hb (fun x hx => hlt x (by simp [hx])), ih _ _ _ (fun u hu => ht u (by simp [hu])) h2 (fun x hx => hlt x (by simp [hx])), rfl⟩

theorem okTy {t : TypeId} (h1 : Tryz.prog.readableRec t = true) (h2 : decide (t < Tryz.prog.types.size) = true) : Tryz.prog.readableRec t = true ∧ t < Tryz.prog.types.size := ⟨h1, of_decide_eq_true h2⟩

/-- THE ROW's 'post' OF A LAW: true; the arguments read as they did. -/
theorem law_post {H : Type} {enc : TypeId × Value → H} {f : Func} {s : ChangeSpec} {W W' : World} {args : Array Value} {ds gs : List (DataW H)} {before : List MemPlace}
    (hW : DataW.Whole enc Tryz.prog f.params.toList s.vars false W args.toList ds gs before) (hb : Below W.heap.size W W') (hvars : s.vars = [])
    (hparams : ∀ t ∈ f.params.toList, Tryz.prog.readableRec t = true ∧ t < Tryz.prog.types.size) (hres : f.resultTypes = #[4])
    (hfn : (s.fn H (ds ++ gs)).results = [.lit (.bool true)] ∧ (s.fn H (ds ++ gs)).args = ds ∧ (s.fn H (ds ++ gs)).vars = []) :
    s.post enc Tryz.prog f false true false false W args (.bool true) W' := by
  have hlt := hW.lt
  have hW' := hW
  obtain ⟨p, q, hA, hV, rfl, hfz, hnd⟩ := hW
  rw [hvars] at hV
  obtain ⟨rfl, rfl⟩ := trodVars_none hV
  refine ⟨ds, [], _, [], p, [], hW', ?_, ?_, ?_, hb.frame _, fun h => by cases h⟩
  · rw [hfn.1, hres]; exact trodAll_mk1 (shut_bool Tryz.underlying4 true)
  · rw [hfn.2.1]
    exact trodAll_stays hb _ _ _ _ hparams hA (fun x hx => hlt x (by simp [hx]))
  · rw [hvars, hfn.2.2]; exact rfl
end Go.Proofs.YtpcafkinpkepcaaGreatDoor

/-
  SLICES OF INTS AND OF STRINGS that came in: where their cells lie; what the arguments' reading gives of them.
-/
namespace Go.Proofs.YtpcafkinpkepcaaGreatDoor
open Go.ChangeShapes Go.WideShapes Go.ChangeAt Go.RowKit
open Go.WideMaps Go.WideElems
set_option linter.unusedVariables false
set_option maxRecDepth 100000

/-- A slice of ints, wherever it lies below block B. -/
def IntsAt (w : World) (B : Nat) (v : Value) (xs : List Int) : Prop :=
  ∃ a cap, v = .slice a xs.length cap ∧ (xs ≠ [] → ∃ sb so, a = some ⟨sb, so, none⟩ ∧ sb < B ∧ ∀ j x, xs[j]? = some x → w.cell? ⟨sb, so + j, none⟩ = some (.int .i64 x))

/-- A slice of strings, wherever it lies below block B. -/
def StrsAt (w : World) (B : Nat) (v : Value) (xs : List ByteArray) : Prop :=
  ∃ a cap, v = .slice a xs.length cap ∧ (xs ≠ [] → ∃ sb so, a = some ⟨sb, so, none⟩ ∧ sb < B ∧ ∀ j x, xs[j]? = some x → w.cell? ⟨sb, so + j, none⟩ = some (.string x))

theorem cellsInt : Tryz.prog.cellsOf 3 = 1 := by kernel_rfl
theorem cellsString : Tryz.prog.cellsOf 9 = 1 := by kernel_rfl

theorem ints_arg {H : Type} {enc : TypeId × Value → H} {W : World} {base : Nat} {v : Value} {d : DataW H} {p : List MemPlace} (ho : Value.okWide Tryz.prog W .any base 32 v)
    (h : DataW.Trod enc Tryz.prog W 0 (fun _ => true) true 32 v d p) :
    ∃ xs : List Int, IntsAt W W.heap.size v xs ∧ (∀ n ∈ xs, -9223372036854775808 ≤ n ∧ n ≤ 9223372036854775807) ∧ xs.length ≤ maxLen := by
  obtain ⟨a0, len, cap, rfl⟩ := okWide_slice Tryz.underlying32 ho
  obtain ⟨fuel, hf⟩ := h
  rcases open_ints Tryz.underlying32 Tryz.underlying3 cellsInt hf with ⟨hcs, hx⟩ | ⟨a, len', cap', zs, hcs, _, hl, hm, hz, hx, hcell, hwz⟩
  · simp [Value.cells] at hcs
    obtain ⟨rfl, rfl, rfl⟩ := hcs
    exact ⟨[], ⟨none, 0, rfl, fun h => absurd rfl h⟩, by simp, by simp⟩
  · simp [Value.cells] at hcs
    obtain ⟨rfl, rfl, rfl⟩ := hcs
    simp only [if_true] at hz
    have hlen : (zs.take len).length = len := by rw [List.length_take]; omega
    refine ⟨zs.take len, ⟨some a, cap, by rw [hlen], fun h0 => ?_⟩, ?_, by omega⟩
    · have hpos : 0 < zs.length := by
        rcases Nat.eq_zero_or_pos zs.length with h | h
        · exact absurd (by rw [List.length_eq_zero_iff.1 h]; simp) h0
        · exact h
      obtain ⟨b, off, rfl, hc⟩ := ints_at hcell hpos
      refine ⟨b, off, rfl, World.block_lt_of_cell? W _ (hc 0 hpos), fun j x hj => ?_⟩
      have hjl : j < len := by
        rcases Nat.lt_or_ge j len with h | h
        · exact h
        · rw [List.getElem?_eq_none (by rw [hlen]; exact h)] at hj; cases hj
      rw [hc j (by omega)]
      rw [List.getElem?_take_of_lt hjl] at hj
      simp [List.getD, hj]
    · intro n hn
      have := hwz n (List.mem_of_mem_take hn)
      simpa [Lit.wf, IntKind.min, IntKind.max, IntKind.signed, IntKind.bits] using this

theorem strs_arg {H : Type} {enc : TypeId × Value → H} {W : World} {base : Nat} {v : Value} {d : DataW H} {p : List MemPlace} (ho : Value.okWide Tryz.prog W .any base 47 v)
    (h : DataW.Trod enc Tryz.prog W 0 (fun _ => true) true 47 v d p) :
    ∃ xs : List ByteArray, StrsAt W W.heap.size v xs ∧ (∀ s ∈ xs, s.size ≤ maxLen) ∧ xs.length ≤ maxLen := by
  obtain ⟨a0, len, cap, rfl⟩ := okWide_slice Tryz.underlying47 ho
  obtain ⟨fuel, hf⟩ := h
  rcases open_strings Tryz.underlying47 Tryz.underlying9 cellsString hf with ⟨hcs, hx⟩ | ⟨a, len', cap', zs, hcs, _, hl, hm, hz, hx, hcell, hwz⟩
  · simp [Value.cells] at hcs
    obtain ⟨rfl, rfl, rfl⟩ := hcs
    exact ⟨[], ⟨none, 0, rfl, fun h => absurd rfl h⟩, by simp, by simp⟩
  · simp [Value.cells] at hcs
    obtain ⟨rfl, rfl, rfl⟩ := hcs
    simp only [if_true] at hz
    have hlen : (zs.take len).length = len := by rw [List.length_take]; omega
    refine ⟨zs.take len, ⟨some a, cap, by rw [hlen], fun h0 => ?_⟩, fun s hs => hwz s (List.mem_of_mem_take hs), by omega⟩
    have hpos : 0 < zs.length := by
      rcases Nat.eq_zero_or_pos zs.length with h | h
      · exact absurd (by rw [List.length_eq_zero_iff.1 h]; simp) h0
      · exact h
    obtain ⟨b, off, spot⟩ := a
    have hspot : spot = none := by simpa [Addr.add] using World.cell?_spot (hcell 0 hpos)
    subst hspot
    have hc : ∀ j, j < zs.length → W.cell? ⟨b, off + j, none⟩ = some (.string (zs.getD j ByteArray.empty)) := fun j hj => by rw [← Go.WideShapes.add_plain]; exact hcell j hj
    refine ⟨b, off, rfl, World.block_lt_of_cell? W _ (hc 0 hpos), fun j x hj => ?_⟩
    have hjl : j < len := by
      rcases Nat.lt_or_ge j len with h | h
      · exact h
      · rw [List.getElem?_eq_none (by rw [hlen]; exact h)] at hj; cases hj
    rw [hc j (by omega)]
    rw [List.getElem?_take_of_lt hjl] at hj
    simp [List.getD, hj]
end Go.Proofs.YtpcafkinpkepcaaGreatDoor

