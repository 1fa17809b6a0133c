/-
  LAYER 6 (net): the laws' acts, as they come in; pick, small.
-/
import Derived.Test.YtclkhkoappjgdaaGArgs
import Derived.Test.YtclkhkoappjgdaaNtRef
namespace Go.Proofs.Ytclkhkoappjgdaa
open Go.ChangeShapes Go.WideShapes Go.ChangeAt Go.RowKit
open Go.WideMaps Go.WideElems Go.Deep Go.Joins
set_option linter.unusedVariables false
set_option maxRecDepth 100000

/-- An act: its group as a slice's three parts. -/
structure Na where
  op : Int
  k : Int
  fr : Int
  to_ : Int
  dt : ByteArray
  ga : Option Addr
  gn : Nat
  gc : Nat
def Na.gv (a : Na) : Value := .slice a.ga a.gn a.gc
def naTy : RowTy Na := ⟨22, 41, 6, 72, fun x => [.int .i64 x.op, .int .i64 x.k, .int .i64 x.fr, .int .i64 x.to_, .string x.dt, .slice x.ga x.gn x.gc], .agg #[.int .i64 0, .int .i64 0, .int .i64 0, .int .i64 0, .string ⟨#[]⟩, .slice none 0 0]⟩
theorem naTy_ok : naTy.Ok := ⟨fun _ => rfl, fun x u hu => by simp [naTy] at hu; rcases hu with rfl | rfl | rfl | rfl | rfl | rfl <;> rfl, by decide, Try.underlying22, by kernel_rfl, by kernel_rfl, rfl, by decide⟩
/-- What an act that came in is: its group lies somewhere. -/
structure NaIn (W : World) (a : Na) : Prop where
  op : I64' a.op
  k : I64' a.k
  fr : I64' a.fr
  to_ : I64' a.to_
  dt : a.dt.size ≤ maxLen
  grp : ∃ G : List Int, RAt numTy W a.gv G ∧ (∀ n ∈ G, I64' n) ∧ G.length ≤ maxLen
theorem trodStr {H : Type} {enc : TypeId × Value → H} {W : World} {n : Nat} {v : Value} {y : DataW H × List MemPlace} (h : DataW.trod enc Try.prog W 0 (fun _ => true) true n 9 [v] = some y) :
    ∃ s : ByteArray, v = .string s ∧ s.size ≤ maxLen := by
  obtain ⟨s, hcs, hx, hw⟩ := DataW.trod_string Try.underlying9 h
  simp at hcs
  exact ⟨s, hcs, hw⟩
theorem trodNums {H : Type} {enc : TypeId × Value → H} {W : World} {n : Nat} {v : Value} {y : DataW H × List MemPlace} (hf : DataW.trod enc Try.prog W 0 (fun _ => true) true n 29 [v] = some y) :
    ∃ xs : List Int, RAt numTy W v xs ∧ (∀ n ∈ xs, I64' n) ∧ xs.length ≤ maxLen := by
  rcases open_ints Try.underlying29 Try.underlying3 cellsInt' hf with ⟨hcs, hx⟩ | ⟨a, len, cap, zs, hcs, hl0, hl, hm, hz, hx, hcell, hwz⟩
  · simp at hcs
    subst hcs
    exact ⟨[], rAt_nil W, by simp, by simp⟩
  · simp at hcs
    subst hcs
    simp only [if_true] at hz
    have hlen : (zs.take len).length = len := by rw [List.length_take]; omega
    refine ⟨zs.take len, ?_, ?_, by omega⟩
    · have := rAt_of_cells numTy_ok (w := W) (a := a) (L := zs.take len) (cap := cap) (by omega) (by omega) (fun k x hk j u hj => by
        have hkl : k < len := by
          rcases Nat.lt_or_ge k len with h | h
          · exact h
          · rw [List.getElem?_eq_none (by rw [hlen]; exact h)] at hk; cases hk
        simp [numTy] at hj
        have hj0 : j = 0 := by
          rcases Nat.eq_zero_or_pos j with h | h
          · exact h
          · rw [List.getElem?_eq_none (by simp; omega)] at hj; cases hj
        subst hj0
        simp at hj
        subst hj
        rw [show numTy.n = 1 from rfl, Nat.mul_one, Nat.add_zero, hcell k (by omega)]
        rw [List.getElem?_take_of_lt hkl] at hk
        simp [List.getD, hk])
      rw [hlen] at this
      exact this
    · intro n hn
      have := hwz n (List.mem_of_mem_take hn)
      simpa [I64', Lit.wf, IntKind.min, IntKind.max, IntKind.signed, IntKind.bits] using this
theorem nas_arg {H : Type} {enc : TypeId × Value → H} {W : World} {base : Nat} {v : Value} {d : DataW H} {p : List MemPlace} (ho : Value.okWide Try.prog W .any base 22 v)
    (h : DataW.Trod enc Try.prog W 0 (fun _ => true) true 22 v d p) : ∃ l : List Na, RAt naTy W v l ∧ (∀ a ∈ l, NaIn W a) ∧ l.length ≤ maxLen :=
  structs_arg naTy_ok ho h Try.underlying41 (by kernel_rfl) (by kernel_rfl) rfl (NaIn W) (fun c hc => by
    obtain ⟨_, _, t0⟩ := hc 0 _ rfl
    obtain ⟨_, _, t1⟩ := hc 1 _ rfl
    obtain ⟨_, _, t2⟩ := hc 2 _ rfl
    obtain ⟨_, _, t3⟩ := hc 3 _ rfl
    obtain ⟨_, _, t4⟩ := hc 4 _ rfl
    obtain ⟨_, _, t5⟩ := hc 5 _ rfl
    obtain ⟨k0, e0, b0⟩ := trodInt t0
    obtain ⟨k1, e1, b1⟩ := trodInt t1
    obtain ⟨k2, e2, b2⟩ := trodInt t2
    obtain ⟨k3, e3, b3⟩ := trodInt t3
    obtain ⟨k4, e4, b4⟩ := trodStr t4
    obtain ⟨G, g1, g2, g3⟩ := trodNums t5
    obtain ⟨ga, gc, e5, _⟩ := id g1
    refine ⟨⟨k0, k1, k2, k3, k4, ga, G.length, gc⟩, ⟨b0, b1, b2, b3, b4, G, by rw [e5] at g1; exact g1, g2, g3⟩, fun j u hj => ?_⟩
    match j, hj with
    | 0, hj => rw [e0]; simpa [naTy] using hj
    | 1, hj => rw [e1]; simpa [naTy] using hj
    | 2, hj => rw [e2]; simpa [naTy] using hj
    | 3, hj => rw [e3]; simpa [naTy] using hj
    | 4, hj => rw [e4]; simpa [naTy] using hj
    | 5, hj => rw [e5]; simpa [naTy] using hj)
/-- The k-th act's cells. -/
theorem na_at {w : World} {v : Value} {l : List Na} (h : RAt naTy w v l) : ∃ a cap, v = .slice a l.length cap ∧ ∀ (k : Nat) x, l[k]? = some x → ∃ sb so, a = some ⟨sb, so, none⟩ ∧ sb < w.heap.size ∧
    w.cell? ⟨sb, so + k * 6, none⟩ = some (.int .i64 x.op) ∧ w.cell? ⟨sb, so + k * 6 + 1, none⟩ = some (.int .i64 x.k) ∧ w.cell? ⟨sb, so + k * 6 + 2, none⟩ = some (.int .i64 x.fr) ∧ w.cell? ⟨sb, so + k * 6 + 3, none⟩ = some (.int .i64 x.to_) ∧ w.cell? ⟨sb, so + k * 6 + 4, none⟩ = some (.string x.dt) ∧ w.cell? ⟨sb, so + k * 6 + 5, none⟩ = some (.slice x.ga x.gn x.gc) := by
  obtain ⟨a, cap, rfl, _, _, hc⟩ := h.at naTy_ok
  refine ⟨a, cap, rfl, fun k x hk => ?_⟩
  obtain ⟨sb, so, e, hlt, hcs⟩ := hc k x hk
  exact ⟨sb, so, e, hlt, hcs 0 _ rfl, hcs 1 _ rfl, hcs 2 _ rfl, hcs 3 _ rfl, hcs 4 _ rfl, hcs 5 _ rfl⟩
def pickZ (c n : Int) : Int := (if c < 0 then -(c + 1) else c) % n
theorem pickZ_range (c n : Int) (hn : 0 < n) : 0 ≤ pickZ c n ∧ pickZ c n < n := ⟨Int.emod_nonneg _ (by omega), Int.emod_lt_of_pos _ hn⟩
theorem pick_any (c n : Int) (w : World) (hn : 0 < n) (hn2 : n ≤ 1000000) (h0 : -9223372036854775808 ≤ c) (h1 : c ≤ 9223372036854775807) :
    Calls Try.prog 11 #[.int .i64 c, .int .i64 n] w fun e w' => e = .returned (.int .i64 (pickZ c n)) ∧ w = w' := by
  unfold pickZ
  by_cases h : c < 0
  · rw [if_pos h]
    have hc : 0 ≤ -(c + 1) := by omega
    have hc2 : -(c + 1) ≤ 9223372036854775807 := by omega
    go_enter Try.func11, Try.ntmps11
    go_wp2
    go_ret
    refine ⟨?_, rfl⟩
    show Ending.returned (.int .i64 _) = _
    congr 2
    first | rfl | (rw [← Int.tmod_eq_emod_of_nonneg hc]; simp [Int.neg_tmod])
  · rw [if_neg h]
    have hc : 0 ≤ c := by omega
    go_enter Try.func11, Try.ntmps11
    go_wp2
    go_ret
    exact ⟨by first | rfl | (congr 2; exact Int.tmod_eq_emod_of_nonneg hc), rfl⟩
def smOne (a : Na) : Bool := decide (a.dt.size ≤ 300) && decide (a.gn ≤ 40)
def smallN (l : List Na) : Bool := decide (l.length ≤ 500) && l.all smOne
theorem small_any (w : World) (v : Value) (l : List Na) (hv : RAt naTy w v l) (hl : l.length ≤ maxLen) :
    Calls Try.prog 9 #[v] w fun e w' => e = .returned (.bool (smallN l)) ∧ w = w' := by
  obtain ⟨a, cap, rfl, hat⟩ := na_at hv
  have HA := hid hat
  clear hat hv
  by_cases hlen : l.length ≤ 500
  · have hlI : (l.length : Int) ≤ 500 := by omega
    obtain ⟨r, hr⟩ : ∃ r, smallN l = r := ⟨_, rfl⟩
    rw [hr]
    have HR := hid hr
    have HSm : Hid (smallN l = l.all smOne) := hid (by unfold smallN; rw [decide_eq_true hlen, Bool.true_and])
    clear hr
    go_enter Try.func9, Try.ntmps9
    go_wp2
    go_loop [3] (fun i => ∃ k : Nat, k ≤ l.length ∧ i = .int .i64 k ∧ Hid ((l.take k).all smOne = true)) (fun i => l.length - (intOf i).toNat)
    case atStart => exact ⟨0, Nat.zero_le _, rfl, hid (by simp)⟩
    case round =>
      obtain ⟨k, hk, rfl, hT⟩ := hrel
      by_cases hkl : k < l.length
      · obtain ⟨x, hx⟩ : ∃ x, l[k] = x := ⟨_, rfl⟩
        obtain ⟨sb, so, rfl, _, _, _, _, _, c4, c5⟩ := HA.out k x (by rw [List.getElem?_eq_getElem hkl, hx])
        have hkI : (k : Int) < (l.length : Int) := by omega
        have HS : Hid (smOne x = true → (l.take (k + 1)).all smOne = true) := hid (fun h => by
          rw [List.take_add_one, List.getElem?_eq_getElem hkl, hx]
          simp only [Option.toList, List.all_append, hT.out, List.all_cons, h, List.all_nil, Bool.and_true])
        have HN : Hid (smOne x = false → l.all smOne = false) := hid (fun h => by
          rw [List.all_eq_false]
          exact ⟨x, by rw [← hx]; exact List.getElem_mem hkl, by rw [h]; simp⟩)
        clear hx
        by_cases h1 : x.dt.size ≤ 300
        · have h1I : (x.dt.size : Int) ≤ 300 := by omega
          by_cases h2 : x.gn ≤ 40
          · have h2I : (x.gn : Int) ≤ 40 := by omega
            have HO := hid (HS.out (by unfold smOne; rw [decide_eq_true h1, decide_eq_true h2]; rfl))
            go_wp2
            go_round
            case rel => exact ⟨k + 1, by omega, by go_num, HO⟩
            case measure => simp [intOf]; omega
          · have h2I : (40 : Int) < (x.gn : Int) := by omega
            obtain rfl : r = false := HR.out.symm.trans (HSm.out.trans (HN.out (by unfold smOne; rw [decide_eq_false h2, Bool.and_false])))
            go_wp2
            go_ret
            exact ⟨rfl, rfl⟩
        · have h1I : (300 : Int) < (x.dt.size : Int) := by omega
          obtain rfl : r = false := HR.out.symm.trans (HSm.out.trans (HN.out (by unfold smOne; rw [decide_eq_false h1, Bool.false_and])))
          go_wp2
          go_ret
          exact ⟨rfl, rfl⟩
      · obtain rfl : k = l.length := by omega
        obtain rfl : r = true := HR.out.symm.trans (HSm.out.trans (by have := hT.out; rwa [List.take_length] at this))
        go_wp2
        go_ret
        exact ⟨rfl, rfl⟩
  · have hlI : (500 : Int) < (l.length : Int) := by omega
    have hs : smallN l = false := by unfold smallN; rw [decide_eq_false hlen, Bool.false_and]
    rw [hs]
    clear hs
    go_enter Try.func9, Try.ntmps9
    go_wp2
    go_ret
    exact ⟨rfl, rfl⟩
end Go.Proofs.Ytclkhkoappjgdaa
