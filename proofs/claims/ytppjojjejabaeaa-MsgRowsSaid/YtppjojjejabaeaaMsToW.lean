/-
  LAYER 7 (msg), THE PROGRAM: toList of numbers, ToVoters.
-/
import Derived.Test.YtppjojjejabaeaaMsToV
import Derived.BigQuiet
namespace Go.Proofs.Ytppjojjejabaeaa
open Go.RowKit
set_option linter.unusedVariables false
set_option maxRecDepth 100000

def TLRel (w : World) (lb rb N : Nat) (r0 : List UInt8) (u : Value) (wr : World) : Prop :=
  ∃ k : Nat, k ≤ N ∧ u = .int .i64 (k : Int) ∧ Hid ((∃ r a cap vs, TLs w lb rb N k r0 wr r a cap vs) ∨ TLz w rb N r0 wr)
theorem tl_round {w : World} {lb rb N k : Nat} {r0 : List UInt8} {wr : World} (hN : N ≤ 9) (hk : k < N) (h : (∃ r a cap vs, TLs w lb rb N k r0 wr r a cap vs) ∨ TLz w rb N r0 wr) :
    Calls Try.prog 59 #[.pointer (some ⟨rb, 0, none⟩), .func (.func 43) #[] #[], .slice (some ⟨wr.heap.size, 0, none⟩) 1 1] (wr.alloc (.cells #[.func (.func 79) #[.pointer (some ⟨lb, 0, none⟩)] #[]] 82)) fun e w' => e = .returned (.tuple #[]) ∧ TLRel w lb rb N r0 (.int .i64 ((k + 1 : Nat) : Int)) w' := by
  have hbA : Below wr.heap.size wr (wr.alloc (.cells #[takeItemV lb] 82)) := (Below.refl _ _).alloc (Nat.le_refl _) _
  have ho := own.new wr #[takeItemV lb] 82
  have h0 : TLI w lb rb N k r0 wr.heap.size 0 (wr.alloc (.cells #[takeItemV lb] 82)) ∨ TLZ w lb rb N r0 wr.heap.size (wr.alloc (.cells #[takeItemV lb] 82)) := by
    rcases h with ⟨r, a, cap, vs, hs⟩ | hz
    · exact .inl ⟨hk, ho, fun e => by have := hs.rd.lt; omega, r, a, cap, vs, hs.later hbA⟩
    · exact .inr ⟨hz.later hbA, ho⟩
  exact (readI_any (tl_pre (w := w) (lb := lb) (rb := rb) (k := k) (r0 := r0) (tb := wr.heap.size) hN) (by omega) _ h0).mono fun e w' ⟨h1, h2⟩ => ⟨h1, k + 1, by omega, rfl, hid (by
    rcases h2 with h2 | h2
    · exact .inl h2
    · exact .inr h2.1)⟩
set_option maxHeartbeats 8000000 in
theorem toListInt_any (l : List UInt8) (w : World) (hl : l.length ≤ maxLen) :
    Calls Try.prog 42 #[.string (mk l), .int .i64 9, .func (.func 43) #[] #[]] w (TVPost w (dV l)) := by
  obtain ⟨q, hq⟩ : ∃ q, dV l = q := ⟨_, rfl⟩
  rw [hq]
  have HNone : Hid (dV l = none → ∀ wx, Below w.heap.size w wx → TVPost w q (.returned (.tuple #[.slice none 0 0, .string ⟨#[]⟩, .bool false])) wx) := hid (fun h wx hb => by
    rw [← hq, h]
    exact ⟨rfl, hb⟩)
  have HSome : Hid (∀ xs r, dV l = some (xs, r) → ∀ a cap wx, RMid numTy w wx (.slice a xs.length cap) xs → TVPost w q (.returned (.tuple #[.slice a xs.length cap, .string (mk r), .bool true])) wx) := hid (fun xs r h a cap wx hm => by
    rw [← hq, h]
    exact ⟨a, cap, rfl, hm⟩)
  clear hq
  cases hd : dI l with
  | none =>
    have HI := hid (pI_no hd hl w)
    have HV : Hid (dV l = none) := hid (by unfold dV; rw [hd])
    clear hd
    go_enter Try.func42, Try.ntmps42
    go_wp2_with (go_at_call 43; (with_reducible refine HI.out.mono ?_); rintro e w1 ⟨rfl, hb⟩)
    go_ret3
    exact HNone.out HV.out _ hb
  | some p =>
    obtain ⟨n, r0⟩ := p
    have HI := hid (pI_yes hd hl w)
    have hs := dI_shorter hd
    have hdv : dV l = if n < 0 ∨ 9 < n then none else dNs n.toNat r0 := by unfold dV; rw [hd]
    by_cases hn : n < 0
    · have HV : Hid (dV l = none) := hid (by rw [hdv, if_pos (.inl hn)])
      have d1 : decide (n < 0) = true := decide_eq_true hn
      clear hd hdv
      go_enter Try.func42, Try.ntmps42
      go_wp2_with (go_at_call 43; (with_reducible refine HI.out.mono ?_); rintro e w1 ⟨rfl, hb⟩)
      go_ret3
      exact HNone.out HV.out _ hb
    have d1 : decide (n < 0) = false := decide_eq_false hn
    by_cases hn9 : 9 < n
    · have HV : Hid (dV l = none) := hid (by rw [hdv, if_pos (.inr hn9)])
      have d2 : decide (9 < n) = true := decide_eq_true hn9
      clear hd hdv
      go_enter Try.func42, Try.ntmps42
      go_wp2_with (go_at_call 43; (with_reducible refine HI.out.mono ?_); rintro e w1 ⟨rfl, hb⟩)
      go_ret3
      exact HNone.out HV.out _ hb
    have d2 : decide (9 < n) = false := decide_eq_false hn9
    rw [if_neg (by omega)] at hdv
    obtain ⟨N, rfl⟩ : ∃ N : Nat, n = (N : Int) := ⟨n.toNat, by omega⟩
    rw [Int.toNat_natCast] at hdv
    have HV := hid hdv
    have hN9 : N ≤ 9 := by omega
    have HN9 := hid hN9
    have HS0 : Hid (∀ w1, Below w.heap.size w w1 → TLRel w w1.heap.size (w1.heap.size + 1) N r0 (.int .i64 0) ((w1.alloc (.cells #[.slice none 0 0] 108)).alloc (.cells #[.string (mk r0), .bool true] 95))) := hid (fun w1 hb => by
      have hz := hb.size
      have hbL : Below w.heap.size w ((w1.alloc (.cells #[.slice none 0 0] 108)).alloc (.cells #[.string (mk r0), .bool true] 95)) := (hb.alloc hz _).alloc (by simp; omega) _
      refine ⟨0, Nat.zero_le _, rfl, hid (.inl ⟨r0, none, 0, [], ⟨(own.new w1 _ _).al _, ⟨rOwn_nil _, fun b e => by simp [Value.ownBlock] at e, hbL⟩, by simp [Value.ownBlock], hz⟩, own.nw (by simp), rfl, by omega, ?_, by omega, by omega, by simp [Value.ownBlock]⟩)⟩
      rw [Nat.sub_zero]
      cases dNs N r0 <;> rfl)
    clear hd hdv
    go_enter Try.func42, Try.ntmps42
    go_wp2_with (go_at_call 43; (with_reducible refine HI.out.mono ?_); rintro e w1 ⟨rfl, hb⟩; have HB := hid hb; clear hb)
    go_loopw [34] (TLRel w w1.heap.size (w1.heap.size + 1) N r0) (fun i _ => N - (intOf i).toNat)
    case atStart => exact HS0.out _ HB.out
    case round =>
      obtain ⟨k, hk, rfl, hst⟩ := hrel
      by_cases hkN : k < N
      · have hkI : (k : Int) < (N : Int) := by omega
        have HR := hid (tl_round HN9.out hkN hst.out)
        clear hst
        go_wp2_with (go_at_call 59; (with_reducible refine HR.out.mono ?_); rintro e w2 ⟨rfl, h2⟩; have HQ := hid h2; clear h2)
        go_roundw
        case rel => exact HQ.out
        case measure => simp [intOf]; omega
      · obtain rfl : k = N := by omega
        rcases hst.out with ⟨r, a, cap, vs, hs⟩ | hz
        · have c0 : wr.cell? ⟨w1.heap.size + 1, 0, none⟩ = some (.string (mk r)) := (hs.rd.cell 0).trans rfl
          have c1 : wr.cell? ⟨w1.heap.size + 1, 1, none⟩ = some (.bool true) := (hs.rd.cell 1).trans rfl
          have cl : wr.cell? ⟨w1.heap.size, 0, none⟩ = some (.slice a vs.length cap) := (hs.ls.box.cell 0).trans rfl
          have HD : Hid (∀ m, RMid numTy w (wr.drewN m) (.slice a vs.length cap) vs) := hid (fun m => (rMid_numL.2 hs.ls.row).later (below_drew (Below.refl _ _) m))
          have heq := hs.eq
          rw [Nat.sub_self] at heq
          have HV2 : Hid (dV l = some (vs, r)) := hid (by rw [HV.out, heq]; simp [dNs])
          clear heq hs hst
          go_wp2
          go_quiet (fail)
          all_goals
            go_wp2
            go_ret3
            exact HSome.out _ _ HV2.out _ _ _ (HD.out _)
        · obtain ⟨s, hs⟩ := hz.rd
          have c1 : wr.cell? ⟨w1.heap.size + 1, 1, none⟩ = some (.bool false) := (hs.cell 1).trans rfl
          have HV2 : Hid (dV l = none) := hid (by rw [HV.out, hz.eq])
          have HBz := hid hz.below
          clear hs hst hz
          go_wp2
          go_ret3
          exact HNone.out HV2.out _ HBz.out
theorem toVoters_any (l : List UInt8) (w : World) (hl : l.length ≤ maxLen) : Calls Try.prog 21 #[.string (mk l)] w (TVPost w (dV l)) := by
  have HT := hid (toListInt_any l w hl)
  cases hq : dV l with
  | none =>
    rw [hq] at HT
    clear hq
    go_enter Try.func21, Try.ntmps21
    go_wp2_with (go_at_call 42; (with_reducible refine HT.out.mono ?_); rintro e w1 ⟨rfl, hb⟩)
    go_ret3
    exact ⟨rfl, hb⟩
  | some p =>
    obtain ⟨xs, r⟩ := p
    rw [hq] at HT
    clear hq
    go_enter Try.func21, Try.ntmps21
    go_wp2_with (go_at_call 42; (with_reducible refine HT.out.mono ?_); rintro e w1 ⟨a, cap, rfl, hm⟩; have HM := hid hm; clear hm)
    go_ret3
    exact ⟨a, cap, rfl, HM.out⟩
end Go.Proofs.Ytppjojjejabaeaa
