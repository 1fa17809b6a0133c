/-
  LAYER 5 (agenda): slices of ints that came in; the law's own helpers: pick, same, has.
-/
import Derived.Test.YtmjgkhjjnfoolaaAgDue
import Derived.Test.YtmjgkhjjnfoolaaLaw
namespace Go.Proofs.Ytmjgkhjjnfoolaa
open Go.ChangeShapes Go.WideShapes Go.ChangeAt Go.RowKit
open Go.WideMaps Go.WideElems
set_option linter.unusedVariables false
set_option maxRecDepth 100000

/-- A slice of ints, wherever it lies below block B. -/
def IntsAt (w : World) (B : Nat) (v : Value) (xs : List Int) : Prop :=
  ∃ a cap, v = .slice a xs.length cap ∧ (xs ≠ [] → ∃ sb so, a = some ⟨sb, so, none⟩ ∧ sb < B ∧ ∀ j x, xs[j]? = some x → w.cell? ⟨sb, so + j, none⟩ = some (.int .i64 x))
theorem cellsInt : Try.prog.cellsOf 3 = 1 := by kernel_rfl
theorem ints_arg {H : Type} {enc : TypeId × Value → H} {W : World} {base : Nat} {v : Value} {d : DataW H} {p : List MemPlace} (ho : Value.okWide Try.prog W .any base 33 v)
    (h : DataW.Trod enc Try.prog W 0 (fun _ => true) true 33 v d p) :
    ∃ xs : List Int, IntsAt W W.heap.size v xs ∧ (∀ n ∈ xs, -9223372036854775808 ≤ n ∧ n ≤ 9223372036854775807) ∧ xs.length ≤ maxLen := by
  obtain ⟨a0, len, cap, rfl⟩ := okWide_slice Try.underlying33 ho
  obtain ⟨fuel, hf⟩ := h
  rcases open_ints Try.underlying33 Try.underlying3 cellsInt hf with ⟨hcs, hx⟩ | ⟨a, len', cap', zs, hcs, _, hl, hm, hz, hx, hcell, hwz⟩
  · simp [Value.cells] at hcs
    obtain ⟨rfl, rfl, rfl⟩ := hcs
    exact ⟨[], ⟨none, 0, rfl, fun h => absurd rfl h⟩, by simp, by simp⟩
  · simp [Value.cells] at hcs
    obtain ⟨rfl, rfl, rfl⟩ := hcs
    simp only [if_true] at hz
    have hlen : (zs.take len).length = len := by rw [List.length_take]; omega
    refine ⟨zs.take len, ⟨some a, cap, by rw [hlen], fun h0 => ?_⟩, ?_, by omega⟩
    · have hpos : 0 < zs.length := by
        rcases Nat.eq_zero_or_pos zs.length with h | h
        · exact absurd (by rw [List.length_eq_zero_iff.1 h]; simp) h0
        · exact h
      obtain ⟨b, off, rfl, hc⟩ := ints_at hcell hpos
      refine ⟨b, off, rfl, World.block_lt_of_cell? W _ (hc 0 hpos), fun j x hj => ?_⟩
      have hjl : j < len := by
        rcases Nat.lt_or_ge j len with h | h
        · exact h
        · rw [List.getElem?_eq_none (by rw [hlen]; exact h)] at hj; cases hj
      rw [hc j (by omega)]
      rw [List.getElem?_take_of_lt hjl] at hj
      simp [List.getD, hj]
    · intro n hn
      have := hwz n (List.mem_of_mem_take hn)
      simpa [Lit.wf, IntKind.min, IntKind.max, IntKind.signed, IntKind.bits] using this

theorem IntsAt.same {w w' : World} {B : Nat} {v : Value} {xs : List Int} (h : IntsAt w B v xs) (hs : ∀ b, b < B → w'.heap[b]? = w.heap[b]?) : IntsAt w' B v xs := by
  obtain ⟨a, cap, rfl, hc⟩ := h
  refine ⟨a, cap, rfl, fun h0 => ?_⟩
  obtain ⟨sb, so, rfl, hb, hx⟩ := hc h0
  refine ⟨sb, so, rfl, hb, fun j x hj => ?_⟩
  have := hx j x hj
  unfold World.cell? at *
  rw [hs sb hb]
  exact this
theorem IntsAt.mono {w : World} {B B' : Nat} {v : Value} {xs : List Int} (h : IntsAt w B v xs) (hB : B ≤ B') : IntsAt w B' v xs := by
  obtain ⟨a, cap, rfl, hc⟩ := h
  refine ⟨a, cap, rfl, fun h0 => ?_⟩
  obtain ⟨sb, so, h1, hb, hx⟩ := hc h0
  exact ⟨sb, so, h1, by omega, hx⟩
theorem IntsAt.below {w w' : World} {B : Nat} {v : Value} {xs : List Int} (h : IntsAt w B v xs) (hb : Below B w w') : IntsAt w' B v xs := h.same hb.block
theorem NumRow.ints {w : World} {v : Value} {xs : List Int} (h : NumRow w v xs) {B : Nat} (hB : ∀ b, v.ownBlock = some b → b < B) : IntsAt w B v xs := by
  obtain ⟨ao, cap, rfl, _⟩ := h.slice
  refine ⟨ao, cap, rfl, fun h0 => ?_⟩
  rcases h.2 with ⟨hv, hz⟩ | ⟨g, cap', cur, hv, _, hg, _⟩
  · exact absurd (List.length_eq_zero_iff.1 hz) h0
  · simp only [Value.slice.injEq] at hv
    obtain ⟨rfl, _, _⟩ := hv
    refine ⟨g, 0, rfl, hB g rfl, fun j x hj => ?_⟩
    have := World.ownsRow.cells h (g := g) rfl j (.int .i64 x) (by unfold ncells; rw [List.getElem?_map, hj]; rfl)
    rwa [Go.WideShapes.add_plain] at this
def pickZ (c n : Int) : Int := (if c < 0 then -(c + 1) else c) % n
theorem pickZ_range (c n : Int) (hn : 0 < n) : 0 ≤ pickZ c n ∧ pickZ c n < n := ⟨Int.emod_nonneg _ (by omega), Int.emod_lt_of_pos _ hn⟩
theorem pick_any (c n : Int) (w : World) (hn : 0 < n) (hn2 : n ≤ 1000000) (h0 : -9223372036854775808 ≤ c) (h1 : c ≤ 9223372036854775807) :
    Calls Try.prog 10 #[.int .i64 c, .int .i64 n] w fun e w' => e = .returned (.int .i64 (pickZ c n)) ∧ w = w' := by
  unfold pickZ
  by_cases h : c < 0
  · rw [if_pos h]
    have hc : 0 ≤ -(c + 1) := by omega
    have hc2 : -(c + 1) ≤ 9223372036854775807 := by omega
    go_enter Try.func10, Try.ntmps10
    go_wp2
    go_ret
    refine ⟨?_, rfl⟩
    show Ending.returned (.int .i64 _) = _
    congr 2
    first | rfl | (rw [← Int.tmod_eq_emod_of_nonneg hc]; simp [Int.neg_tmod])
  · rw [if_neg h]
    have hc : 0 ≤ c := by omega
    go_enter Try.func10, Try.ntmps10
    go_wp2
    go_ret
    exact ⟨by first | rfl | (congr 2; exact Int.tmod_eq_emod_of_nonneg hc), rfl⟩
theorem take_snoc_eq {xs ys : List Int} {k : Nat} (hk : k < xs.length) (hk2 : k < ys.length) (h : xs.take k = ys.take k) (he : xs[k] = ys[k]) : xs.take (k + 1) = ys.take (k + 1) := by
  rw [List.take_add_one, List.take_add_one, h, List.getElem?_eq_getElem hk, List.getElem?_eq_getElem hk2, he]
set_option maxHeartbeats 4000000 in
theorem same_any (w : World) (va vb : Value) (xs ys : List Int) (ha : IntsAt w w.heap.size va xs) (hb : IntsAt w w.heap.size vb ys) (hx : xs.length ≤ 100000) (hy : ys.length ≤ 100000) :
    Calls Try.prog 14 #[va, vb] w fun e w' => e = .returned (.bool (decide (xs = ys))) ∧ Below w.heap.size w w' := by
  obtain ⟨a, ca, rfl, hA⟩ := ha
  obtain ⟨b, cb, rfl, hB⟩ := hb
  obtain ⟨r, hr⟩ : ∃ r, decide (xs = ys) = r := ⟨_, rfl⟩
  rw [hr]
  have HR := hid hr
  clear hr
  by_cases hlen : xs.length = ys.length
  · have hq : ((xs.length : Int) != (ys.length : Int)) = false := by rw [hlen]; simp
    have HA := hid hA
    have HB := hid hB
    have HL := hid hlen
    clear hA hB hlen
    go_enter Try.func14, Try.ntmps14
    go_wp2
    go_loopw [5] (fun i wr => ∃ k : Nat, k ≤ xs.length ∧ i = .int .i64 k ∧ Hid (xs.take k = ys.take k) ∧ Below w.heap.size w wr) (fun i _ => xs.length - (intOf i).toNat)
    case atStart => exact ⟨0, Nat.zero_le _, rfl, hid rfl, Below.refl _ _⟩
    case round =>
      obtain ⟨k, hk, rfl, hT, hbw⟩ := hrel
      by_cases hkl : k < xs.length
      · have hkl2 : k < ys.length := by have := HL.out; omega
        obtain ⟨sa, oa, rfl, hsa, hca⟩ := HA.out (by intro e; simp [e] at hkl)
        obtain ⟨sb, ob, rfl, hsb, hcb⟩ := HB.out (by intro e; simp [e] at hkl2)
        have c1 := hca k _ (List.getElem?_eq_getElem hkl)
        have c2 := hcb k _ (List.getElem?_eq_getElem hkl2)
        rw [← hbw.cell (p := ⟨sa, oa + k, none⟩) hsa] at c1
        rw [← hbw.cell (p := ⟨sb, ob + k, none⟩) hsb] at c2
        have hkI : (k : Int) < (xs.length : Int) := by omega
        have hkI2 : (k : Int) < (ys.length : Int) := by omega
        have h0 : xs[k]? = some xs[k] := List.getElem?_eq_getElem hkl
        have h1 : ys[k]? = some ys[k] := List.getElem?_eq_getElem hkl2
        have H0 := hid h0
        have H1 := hid h1
        have HS := hid (take_snoc_eq hkl hkl2 hT.out)
        clear hca hcb h0 h1
        obtain ⟨x, hxx⟩ : ∃ x, xs[k]'hkl = x := ⟨_, rfl⟩
        obtain ⟨y, hyy⟩ : ∃ y, ys[k]'hkl2 = y := ⟨_, rfl⟩
        rw [hxx] at c1 H0 HS
        rw [hyy] at c2 H1 HS
        clear hxx hyy
        by_cases he : x = y
        · subst he
          have hqq : (x != x) = false := by simp
          go_wp2
          go_quiet (fail)
          go_wp2
          go_roundw
          case rel => exact ⟨k + 1, by omega, by go_num, hid (HS.out (by simp)), below_drew hbw _⟩
          case measure => simp [intOf]; omega
        · have hqq : (x != y) = true := bne_iff_ne.2 he
          have hne : decide (xs = ys) = false := decide_eq_false (fun e => he (by have := H0.out; rw [e, H1.out] at this; exact (Option.some.inj this).symm))
          obtain rfl : r = false := HR.out.symm.trans hne
          clear hne
          go_wp2
          go_quiet (fail)
          go_wp2
          go_ret
          exact ⟨rfl, below_drew hbw _⟩
      · obtain rfl : k = xs.length := by omega
        have he : decide (xs = ys) = true := decide_eq_true (by have := hT.out; rw [List.take_length, HL.out, List.take_length] at this; exact this)
        obtain rfl : r = true := HR.out.symm.trans he
        clear he
        go_wp2
        go_ret
        exact ⟨rfl, hbw⟩
  · have hq : ((xs.length : Int) != (ys.length : Int)) = true := bne_iff_ne.2 (by omega)
    have hne : decide (xs = ys) = false := decide_eq_false (fun e => hlen (by rw [e]))
    obtain rfl : r = false := HR.out.symm.trans hne
    clear hne hA hB
    go_enter Try.func14, Try.ntmps14
    go_wp2
    go_ret
    exact ⟨rfl, Below.refl _ _⟩
theorem has_any (w : World) (va : Value) (xs : List Int) (n : Int) (ha : IntsAt w w.heap.size va xs) (hx : xs.length ≤ 100000) :
    Calls Try.prog 22 #[va, .int .i64 n] w fun e w' => e = .returned (.bool (decide (n ∈ xs))) ∧ w = w' := by
  obtain ⟨a, ca, rfl, hA⟩ := ha
  have HA := hid hA
  obtain ⟨r, hr⟩ : ∃ r, decide (n ∈ xs) = r := ⟨_, rfl⟩
  rw [hr]
  have HR := hid hr
  clear hr
  clear hA
  go_enter Try.func22, Try.ntmps22
  go_wp2
  go_loop [5] (fun i => ∃ k : Nat, k ≤ xs.length ∧ i = .int .i64 k ∧ Hid (n ∉ xs.take k)) (fun i => xs.length - (intOf i).toNat)
  case atStart => exact ⟨0, Nat.zero_le _, rfl, hid (by simp)⟩
  case round =>
    obtain ⟨k, hk, rfl, hT⟩ := hrel
    by_cases hkl : k < xs.length
    · obtain ⟨sa, oa, rfl, hsa, hca⟩ := HA.out (by intro e; simp [e] at hkl)
      have c1 := hca k _ (List.getElem?_eq_getElem hkl)
      have hkI : (k : Int) < (xs.length : Int) := by omega
      have hm : xs[k] ∈ xs := List.getElem_mem hkl
      have HS : Hid (xs[k] ≠ n → n ∉ xs.take (k + 1)) := hid (fun hne => by
        rw [List.take_add_one, List.getElem?_eq_getElem hkl]
        simp only [Option.toList, List.mem_append, List.mem_singleton, not_or]
        exact ⟨hT.out, fun e => hne e.symm⟩)
      have HM := hid hm
      clear hca hm
      obtain ⟨x, hxx⟩ : ∃ x, xs[k]'hkl = x := ⟨_, rfl⟩
      rw [hxx] at c1 HS HM
      clear hxx
      by_cases he : x = n
      · subst he
        have hqq : (x == x) = true := by simp
        have hd : decide (x ∈ xs) = true := decide_eq_true HM.out
        obtain rfl : r = true := HR.out.symm.trans hd
        clear hd
        go_wp2
        go_ret
        exact ⟨rfl, rfl⟩
      · have hqq : (x == n) = false := beq_eq_false_iff_ne.2 he
        go_wp2
        go_round
        case rel => exact ⟨k + 1, by omega, by go_num, hid (HS.out he)⟩
        case measure => simp [intOf]; omega
    · obtain rfl : k = xs.length := by omega
      have hd : decide (n ∈ xs) = false := decide_eq_false (by have := hT.out; rwa [List.take_length] at this)
      obtain rfl : r = false := HR.out.symm.trans hd
      clear hd
      go_wp2
      go_ret
      exact ⟨rfl, rfl⟩
end Go.Proofs.Ytmjgkhjjnfoolaa
