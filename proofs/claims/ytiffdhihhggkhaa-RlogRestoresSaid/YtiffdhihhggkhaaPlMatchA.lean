/-
  LAYER 8 (rlog), THE PROGRAM's LOG: numbered, lacks, slices.IndexFunc at it.
-/
import Derived.Test.YtiffdhihhggkhaaMq6
namespace Go.Proofs.Ytiffdhihhggkhaa
open Go.RowKit
set_option linter.unusedVariables false
set_option maxRecDepth 100000

/-- The first k have their numbers. -/
def mixL (index : Int) (l : List Me) (k : Nat) : List Me := (reidx index l).take k ++ l.drop k
theorem mixL_len (index : Int) (l : List Me) {k : Nat} (hk : k ≤ l.length) : (mixL index l k).length = l.length := by
  unfold mixL
  rw [List.length_append, List.length_take, reidx_len, List.length_drop]
  omega
theorem mixL_at {index : Int} {l : List Me} {k : Nat} {x : Me} (hx : l[k]? = some x) : (mixL index l k)[k]? = some x := by
  have hk : k < l.length := (List.getElem?_eq_some_iff.1 hx).1
  unfold mixL
  rw [List.getElem?_append_right (by rw [List.length_take, reidx_len]; omega), List.length_take, reidx_len, List.getElem?_drop, show k + (k - min k l.length) = k by omega, hx]
theorem mixL_set {index : Int} {l : List Me} {k : Nat} {x : Me} (hx : l[k]? = some x) : (mixL index l k).set k { x with idx := index + 1 + k } = mixL index l (k + 1) := by
  have hk : k < l.length := (List.getElem?_eq_some_iff.1 hx).1
  apply List.ext_getElem?
  intro j
  unfold mixL
  rw [List.getElem?_set]
  have hl : ((reidx index l).take k).length = k := by rw [List.length_take, reidx_len]; omega
  have hl2 : ((reidx index l).take (k + 1)).length = k + 1 := by rw [List.length_take, reidx_len]; omega
  by_cases h1 : k = j
  · subst h1
    rw [if_pos rfl, if_pos (by rw [List.length_append, hl, List.length_drop]; omega), List.getElem?_append_left (by omega), List.getElem?_take, if_pos (by omega), reidx_get, hx]
    rfl
  · rw [if_neg h1]
    by_cases h2 : j < k
    · rw [List.getElem?_append_left (by omega), List.getElem?_append_left (by omega), List.getElem?_take, List.getElem?_take, if_pos h2, if_pos (by omega)]
    · rw [List.getElem?_append_right (by omega), List.getElem?_append_right (by omega), hl, hl2, List.getElem?_drop, List.getElem?_drop]
      congr 1
      omega
theorem mixL_end (index : Int) (l : List Me) : mixL index l l.length = reidx index l := by
  unfold mixL
  rw [List.drop_eq_nil_of_le (Nat.le_refl _), List.append_nil, List.take_of_length_le (by rw [reidx_len]; exact Nat.le_refl _)]
def NuRel (w : World) (index : Int) (l : List Me) (v : Value) (u : Value) (wr : World) : Prop := ∃ k : Nat, k ≤ l.length ∧ u = .int .i64 (k : Int) ∧ Hid (RMid enTy w wr v (mixL index l k))
set_option maxHeartbeats 8000000 in
theorem plNumbered_any {w : World} (index : Int) {v : Value} {l : List Me} (h : RAt enTy w v l) (hl : l.length ≤ 1000) (hi : -9223372036854775808 ≤ index ∧ index ≤ 1000000) : Calls Try.prog 46 #[.int .i64 (index + 1), v] w (ClPost enTy w (reidx index l)) := by
  have HC := hid (cloneEn_any h (by omega))
  have HI := hid hi
  obtain ⟨ao, cap, rfl, _⟩ := id h
  obtain ⟨ln, hln⟩ : ∃ n, l.length = n := ⟨_, rfl⟩
  rw [hln]
  rw [hln] at HC
  have HLn := hid hln
  have HEnd : Hid (∀ wx a c, RMid enTy w wx (.slice a ln c) (mixL index l ln) → ClPost enTy w (reidx index l) (.returned (.slice a ln c)) wx) := hid (fun wx a c hm => by
    rw [← hln, mixL_end] at hm
    exact ⟨a, c, by rw [reidx_len, hln], by rw [reidx_len]; exact hm⟩)
  clear h hln hi
  go_enter Try.func46, Try.ntmps46
  go_upto_region 2 with (go_at_call 43; (with_reducible refine HC.out.mono ?_); rintro e w1 ⟨a1, c1, rfl, hm⟩)
  have hm0 : RMid enTy w w1 (.slice a1 l.length c1) (mixL index l 0) := by rw [show mixL index l 0 = l from rfl]; exact hm
  rw [HLn.out] at hm0
  have HS := hid hm0
  clear hm hm0 HC
  rw [HLn.out]
  go_wp2
  go_loopw [10] (NuRel w index l (.slice a1 ln c1)) (fun i _ => ln - (intOf i).toNat)
  case atStart => exact ⟨0, Nat.zero_le _, rfl, HS.out⟩
  case round =>
    clear HS
    obtain ⟨k, hk, rfl, hq⟩ := hrel
    by_cases hkn : k < ln
    · have hkI : (k : Int) < (ln : Int) := by omega
      obtain ⟨x, hx⟩ : ∃ x, l[k]? = some x := ⟨_, List.getElem?_eq_getElem (by rw [HLn.out]; exact hkn)⟩
      have hml : (mixL index l k).length = ln := by rw [mixL_len index l hk, HLn.out]
      obtain ⟨g, rfl, hg, hcell, hfr⟩ := hq.out.row.at enTy_ok (by omega)
      have hx2 := mixL_at (index := index) hx
      have d0 : wr.cell? ⟨g, k * 4, none⟩ = some (.int .i64 x.idx) := hcell k x hx2 0 _ rfl
      have f0 := hfr (k * 4)
      have hput := hq.out.row.put enTy_ok (j := 0) (u := .int .i64 (index + 1 + k)) (x' := { x with idx := index + 1 + k }) hx2 (by decide) rfl
      rw [mixL_set hx] at hput
      have hgn := hq.out.new g rfl
      have hw1 : IntKind.i64.wrap (index + 1 + (k : Int)) = index + 1 + k := by have := HI.out; rw [IntKind.wrap_i64]; omega
      have HN : Hid (RMid enTy w (wr.setCell ⟨g, k * 4, none⟩ (.int .i64 (index + 1 + k))) (.slice (some ⟨g, 0, none⟩) ln c1) (mixL index l (k + 1))) := hid ⟨hput, hq.out.new, hq.out.below.setCell (p := ⟨g, k * 4, none⟩) hgn _⟩
      clear hx hml hcell hfr hx2 hput hgn hq
      go_wp2
      go_roundw
      case rel => exact ⟨k + 1, by have := HLn.out; omega, by go_num, HN⟩
      case measure => simp [intOf]; omega
    · obtain rfl : k = ln := by have := HLn.out; omega
      have hkI : (k : Int) ≤ (k : Int) := Int.le_refl _
      go_wp2
      go_ret
      exact HEnd.out _ _ _ hq.out
/-- Is an entry lacking? -/
def lackB (s : Rl) (fixed : Int) (x : Me) : Bool := decide (fixed < x.idx) && !decide (termL s x.idx = some x.term)
set_option maxHeartbeats 8000000 in
theorem plLacks_any {w : World} {F : Nat → Prop} {r : Nat} {s : Rl} (fixed : Int) (x : Me) (h : plRep.Is w F r s) (hB : RlB s) (hi : I64' x.idx) (ht : I64' x.term) :
    Calls Try.prog 47 #[.agg #[.pointer (some ⟨r, 0, none⟩), .int .i64 fixed], .agg #[.int .i64 x.idx, .int .i64 x.term, .int .i64 x.kind, .string x.dt]] w fun e w' => e = .returned (.bool (lackB s fixed x)) ∧ Below w.heap.size w w' := by
  have b1 : Below w.heap.size w (w.alloc (.cells #[.pointer (some ⟨r, 0, none⟩), .int .i64 fixed] 79)) := (Below.refl _ _).alloc (Nat.le_refl _) _
  have b2 : Below w.heap.size w ((w.alloc (.cells #[.pointer (some ⟨r, 0, none⟩), .int .i64 fixed] 79)).alloc (.cells #[.int .i64 x.idx, .int .i64 x.term, .int .i64 x.kind, .string x.dt] 49)) := b1.alloc b1.size _
  have HB2 := hid b2
  have C1 := hid (plHas_any x.idx x.term (pl_later h b2) hB hi ht)
  unfold lackB
  by_cases e1 : fixed < x.idx
  · have d1 : decide (fixed < x.idx) = true := decide_eq_true e1
    rw [d1, Bool.true_and]
    obtain ⟨b, hb⟩ : ∃ b, decide (termL s x.idx = some x.term) = b := ⟨_, rfl⟩
    rw [hb] at C1 ⊢
    clear h hB hi ht b1 b2 hb e1
    go_enter Try.func47, Try.ntmps47
    go_wp2_with (go_at_call 44; (with_reducible refine C1.out.mono ?_); rintro e w1 ⟨rfl, hb1⟩)
    go_ret
    exact ⟨rfl, HB2.out.trans (hb1.mono HB2.out.size)⟩
  · have d1 : decide (fixed < x.idx) = false := decide_eq_false e1
    rw [d1, Bool.false_and]
    clear h hB hi ht b1 b2 e1 C1
    go_enter Try.func47, Try.ntmps47
    go_wp2
    go_ret
    exact ⟨rfl, HB2.out⟩
def IxPost (w : World) (p : Me → Bool) (L : List Me) (e : Ending) (w' : World) : Prop :=
  ((e = .returned (.int .i64 (-1)) ∧ ∀ (j : Nat) x, L[j]? = some x → p x = false) ∨ (∃ (k : Nat) (x : Me), e = .returned (.int .i64 (k : Int)) ∧ L[k]? = some x ∧ p x = true ∧ ∀ (j : Nat) y, j < k → L[j]? = some y → p y = false)) ∧ Below w.heap.size w w'
def IxRel (w : World) (p : Me → Bool) (L : List Me) (u : Value) (wr : World) : Prop := ∃ k : Nat, k ≤ L.length ∧ u = .int .i64 (k : Int) ∧ Hid (∀ (j : Nat) y, j < k → L[j]? = some y → p y = false) ∧ Below w.heap.size w wr
set_option maxHeartbeats 8000000 in
theorem plIndexFunc_any {w : World} {F : Nat → Prop} {r : Nat} {s : Rl} (fixed : Int) {v : Value} {L : List Me} (h : plRep.Is w F r s) (hB : RlB s) (hv : RAt enTy w v L) (hL : ∀ x ∈ L, I64' x.idx ∧ I64' x.term) (hl : L.length ≤ 1000) :
    Calls Try.prog 55 #[v, .func (.func 47) #[.agg #[.pointer (some ⟨r, 0, none⟩), .int .i64 fixed]] #[]] w (IxPost w (lackB s fixed) L) := by
  have HP := hid (fun wx (hb : Below w.heap.size w wx) x (hx : x ∈ L) => plLacks_any fixed x (pl_later h hb) hB (hL x hx).1 (hL x hx).2)
  obtain ⟨ao, cap, rfl, hat⟩ := en_at hv
  have HE := hid hat
  obtain ⟨ln, hln⟩ : ∃ n, L.length = n := ⟨_, rfl⟩
  rw [hln]
  have HLn := hid hln
  generalize lackB s fixed = p at *
  rw [hln] at hl
  clear h hB hv hL hat hln
  go_enter Try.func55, Try.ntmps55
  go_wp2
  go_loopw [5, 8] (fun _ i wr => IxRel w p L i wr) (fun _ i _ => ln - (intOf i).toNat)
  case atStart => exact ⟨0, Nat.zero_le _, rfl, hid (fun j y hj => by omega), Below.refl _ _⟩
  case round =>
    obtain ⟨k, hk, rfl, hq, hbw⟩ := hrel
    have HBw := hid hbw
    by_cases hkn : k < ln
    · have hkI : (k : Int) < (ln : Int) := by omega
      obtain ⟨x, hx⟩ : ∃ x, L[k]? = some x := ⟨_, List.getElem?_eq_getElem (by rw [HLn.out]; exact hkn)⟩
      obtain ⟨sb, so, rfl, hce⟩ := HE.out k x hx
      obtain ⟨d0, d1, d2, d3⟩ := hce wr hbw
      have C1 := hid (HP.out wr hbw x (List.mem_of_getElem? hx))
      have HX := hid hx
      clear hx hce
      cases hpx : p x with
      | true =>
        rw [hpx] at C1
        go_wp2_with (go_at_call 47; (with_reducible refine C1.out.mono ?_); rintro e w2 ⟨rfl, hb2⟩)
        go_ret
        exact ⟨.inr ⟨k, x, rfl, HX.out, hpx, hq.out⟩, HBw.out.trans (hb2.mono HBw.out.size)⟩
      | false =>
        rw [hpx] at C1
        go_wp2_with (go_at_call 47; (with_reducible refine C1.out.mono ?_); rintro e w2 ⟨rfl, hb2⟩)
        have HNx := hid (HBw.out.trans (hb2.mono HBw.out.size))
        go_roundw
        case rel => exact ⟨k + 1, by have := HLn.out; omega, by go_num, hid (fun j y hj hy => by
          by_cases e : j = k
          · subst e
            rw [HX.out] at hy
            cases hy
            exact hpx
          · exact hq.out j y (by omega) hy), HNx.out⟩
        case measure => simp [intOf]; omega
    · obtain rfl : k = ln := by have := HLn.out; omega
      have hkI : (k : Int) ≤ (k : Int) := Int.le_refl _
      go_wp2
      go_ret
      exact ⟨.inl ⟨rfl, fun j y hy => hq.out j y (by have := (List.getElem?_eq_some_iff.1 hy).1; have := HLn.out; omega) hy⟩, HBw.out⟩
end Go.Proofs.Ytiffdhihhggkhaa
