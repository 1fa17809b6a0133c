/-
  LAYER 7 (msg), THE PROGRAM: toList of entries, toEntries.
-/
import Derived.Test.YtppjojjejabaeaaMsToL
namespace Go.Proofs.Ytppjojjejabaeaa
open Go.RowKit
set_option linter.unusedVariables false
set_option maxRecDepth 100000

/-- What toEntries says. -/
def dL (l : List UInt8) : Option (List Me × List UInt8) := (dI l).bind fun c => if c.1 < 0 ∨ 8 < c.1 then none else dEs c.1.toNat c.2
def TNPost (w : World) (q : Option (List Me × List UInt8)) (e : Ending) (w' : World) : Prop :=
  match q with
  | none => e = .returned (.tuple #[.slice none 0 0, .string ⟨#[]⟩, .bool false]) ∧ Below w.heap.size w w'
  | some (xs, r) => ∃ a cap, e = .returned (.tuple #[.slice a xs.length cap, .string (mk r), .bool true]) ∧ RMid enTy w w' (.slice a xs.length cap) xs
def ELRel (w : World) (lb rb N : Nat) (r0 : List UInt8) (u : Value) (wr : World) : Prop :=
  ∃ k : Nat, k ≤ N ∧ u = .int .i64 (k : Int) ∧ Hid ((∃ r a cap vs, ELs w lb rb N k r0 wr r a cap vs) ∨ ELz w rb N r0 wr)
theorem el_round {w : World} {lb rb N k : Nat} {r0 : List UInt8} {wr : World} (hN : N ≤ 8) (hk : k < N) (h : (∃ r a cap vs, ELs w lb rb N k r0 wr r a cap vs) ∨ ELz w rb N r0 wr) :
    Calls Try.prog 97 #[.pointer (some ⟨rb, 0, none⟩), .func (.func 88) #[] #[], .slice (some ⟨wr.heap.size, 0, none⟩) 1 1] (wr.alloc (.cells #[.func (.func 98) #[.pointer (some ⟨lb, 0, none⟩)] #[]] 134)) fun e w' => e = .returned (.tuple #[]) ∧ ELRel w lb rb N r0 (.int .i64 ((k + 1 : Nat) : Int)) w' := by
  have hbA : Below wr.heap.size wr (wr.alloc (.cells #[takeEntV lb] 134)) := (Below.refl _ _).alloc (Nat.le_refl _) _
  have ho := own.new wr #[takeEntV lb] 134
  have h0 : ELI w lb rb N k r0 wr.heap.size 0 (wr.alloc (.cells #[takeEntV lb] 134)) ∨ ELZ w lb rb N r0 wr.heap.size (wr.alloc (.cells #[takeEntV lb] 134)) := by
    rcases h with ⟨r, a, cap, vs, hs⟩ | hz
    · exact .inl ⟨hk, ho, fun e => by have := hs.rd.lt; omega, r, a, cap, vs, hs.later hbA⟩
    · exact .inr ⟨hz.later hbA, ho⟩
  exact (readE_any (el_pre (w := w) (lb := lb) (rb := rb) (k := k) (r0 := r0) (tb := wr.heap.size) hN) (by omega) _ h0).mono fun e w' ⟨h1, h2⟩ => ⟨h1, k + 1, by omega, rfl, hid (by
    rcases h2 with h2 | h2
    · exact .inl h2
    · exact .inr h2.1)⟩
set_option maxHeartbeats 8000000 in
theorem toListEnt_any (l : List UInt8) (w : World) (hl : l.length ≤ 10000000) :
    Calls Try.prog 87 #[.string (mk l), .int .i64 8, .func (.func 88) #[] #[]] w (TNPost w (dL l)) := by
  obtain ⟨q, hq⟩ : ∃ q, dL l = q := ⟨_, rfl⟩
  rw [hq]
  have HNone : Hid (dL l = none → ∀ wx, Below w.heap.size w wx → TNPost w q (.returned (.tuple #[.slice none 0 0, .string ⟨#[]⟩, .bool false])) wx) := hid (fun h wx hb => by
    rw [← hq, h]
    exact ⟨rfl, hb⟩)
  have HSome : Hid (∀ xs r, dL l = some (xs, r) → ∀ a cap wx, RMid enTy w wx (.slice a xs.length cap) xs → TNPost w q (.returned (.tuple #[.slice a xs.length cap, .string (mk r), .bool true])) wx) := hid (fun xs r h a cap wx hm => by
    rw [← hq, h]
    exact ⟨a, cap, rfl, hm⟩)
  clear hq
  cases hd : dI l with
  | none =>
    have HI := hid (pI_no hd (by unfold maxLen; omega) w)
    have HV : Hid (dL l = none) := hid (by unfold dL; rw [hd]; rfl)
    clear hd
    go_enter Try.func87, Try.ntmps87
    go_wp2_with (go_at_call 43; (with_reducible refine HI.out.mono ?_); rintro e w1 ⟨rfl, hb⟩)
    go_ret3
    exact HNone.out HV.out _ hb
  | some p =>
    obtain ⟨n, r0⟩ := p
    have HI := hid (pI_yes hd (by unfold maxLen; omega) w)
    have hs := dI_shorter hd
    have hdv : dL l = if n < 0 ∨ 8 < n then none else dEs n.toNat r0 := by unfold dL; rw [hd]; rfl
    by_cases hn : n < 0
    · have HV : Hid (dL l = none) := hid (by rw [hdv, if_pos (.inl hn)])
      have d1 : decide (n < 0) = true := decide_eq_true hn
      clear hd hdv
      go_enter Try.func87, Try.ntmps87
      go_wp2_with (go_at_call 43; (with_reducible refine HI.out.mono ?_); rintro e w1 ⟨rfl, hb⟩)
      go_ret3
      exact HNone.out HV.out _ hb
    have d1 : decide (n < 0) = false := decide_eq_false hn
    by_cases hn9 : 8 < n
    · have HV : Hid (dL l = none) := hid (by rw [hdv, if_pos (.inr hn9)])
      have d2 : decide (8 < n) = true := decide_eq_true hn9
      clear hd hdv
      go_enter Try.func87, Try.ntmps87
      go_wp2_with (go_at_call 43; (with_reducible refine HI.out.mono ?_); rintro e w1 ⟨rfl, hb⟩)
      go_ret3
      exact HNone.out HV.out _ hb
    have d2 : decide (8 < n) = false := decide_eq_false hn9
    rw [if_neg (by omega)] at hdv
    obtain ⟨N, rfl⟩ : ∃ N : Nat, n = (N : Int) := ⟨n.toNat, by omega⟩
    rw [Int.toNat_natCast] at hdv
    have HV := hid hdv
    have hN9 : N ≤ 8 := by omega
    have HN9 := hid hN9
    have HS0 : Hid (∀ w1, Below w.heap.size w w1 → ELRel w w1.heap.size (w1.heap.size + 1) N r0 (.int .i64 0) ((w1.alloc (.cells #[.slice none 0 0] 132)).alloc (.cells #[.string (mk r0), .bool true] 95))) := hid (fun w1 hb => by
      have hz := hb.size
      have hbL : Below w.heap.size w ((w1.alloc (.cells #[.slice none 0 0] 132)).alloc (.cells #[.string (mk r0), .bool true] 95)) := (hb.alloc hz _).alloc (by simp; omega) _
      refine ⟨0, Nat.zero_le _, rfl, hid (.inl ⟨r0, none, 0, [], ⟨(own.new w1 _ _).al _, ⟨rOwn_nil _, fun b e => by simp [Value.ownBlock] at e, hbL⟩, by simp [Value.ownBlock], hz⟩, own.nw (by simp), rfl, by omega, ?_, by omega, by omega, by simp [Value.ownBlock]⟩)⟩
      rw [Nat.sub_zero]
      cases dEs N r0 <;> rfl)
    clear hd hdv
    go_enter Try.func87, Try.ntmps87
    go_wp2_with (go_at_call 43; (with_reducible refine HI.out.mono ?_); rintro e w1 ⟨rfl, hb⟩; have HB := hid hb; clear hb)
    go_loopw [34] (ELRel w w1.heap.size (w1.heap.size + 1) N r0) (fun i _ => N - (intOf i).toNat)
    case atStart => exact HS0.out _ HB.out
    case round =>
      obtain ⟨k, hk, rfl, hst⟩ := hrel
      by_cases hkN : k < N
      · have hkI : (k : Int) < (N : Int) := by omega
        have HR := hid (el_round HN9.out hkN hst.out)
        clear hst
        go_wp2_with (go_at_call 97; (with_reducible refine HR.out.mono ?_); rintro e w2 ⟨rfl, h2⟩; have HQ := hid h2; clear h2)
        go_roundw
        case rel => exact HQ.out
        case measure => simp [intOf]; omega
      · obtain rfl : k = N := by omega
        rcases hst.out with ⟨r, a, cap, vs, hs⟩ | hz
        · have c0 : wr.cell? ⟨w1.heap.size + 1, 0, none⟩ = some (.string (mk r)) := (hs.rd.cell 0).trans rfl
          have c1 : wr.cell? ⟨w1.heap.size + 1, 1, none⟩ = some (.bool true) := (hs.rd.cell 1).trans rfl
          have cl : wr.cell? ⟨w1.heap.size, 0, none⟩ = some (.slice a vs.length cap) := (hs.ls.box.cell 0).trans rfl
          have HD : Hid (∀ m, RMid enTy w (wr.drewN m) (.slice a vs.length cap) vs) := hid (fun m => (rMid_enL.2 hs.ls.row).later (below_drew (Below.refl _ _) m))
          have heq := hs.eq
          rw [Nat.sub_self] at heq
          have HV2 : Hid (dL l = some (vs, r)) := hid (by rw [HV.out, heq]; simp [dEs])
          clear heq hs hst
          go_wp2
          go_quiet (fail)
          all_goals
            go_wp2
            go_ret3
            exact HSome.out _ _ HV2.out _ _ _ (HD.out _)
        · obtain ⟨s, hs⟩ := hz.rd
          have c1 : wr.cell? ⟨w1.heap.size + 1, 1, none⟩ = some (.bool false) := (hs.cell 1).trans rfl
          have HV2 : Hid (dL l = none) := hid (by rw [HV.out, hz.eq])
          have HBz := hid hz.below
          clear hs hst hz
          go_wp2
          go_ret3
          exact HNone.out HV2.out _ HBz.out
theorem toEntries_any (l : List UInt8) (w : World) (hl : l.length ≤ 10000000) : Calls Try.prog 71 #[.string (mk l)] w (TNPost w (dL l)) := by
  have HT := hid (toListEnt_any l w hl)
  cases hq : dL l with
  | none =>
    rw [hq] at HT
    clear hq
    go_enter Try.func71, Try.ntmps71
    go_wp2_with (go_at_call 87; (with_reducible refine HT.out.mono ?_); rintro e w1 ⟨rfl, hb⟩)
    go_ret3
    exact ⟨rfl, hb⟩
  | some p =>
    obtain ⟨xs, r⟩ := p
    rw [hq] at HT
    clear hq
    go_enter Try.func71, Try.ntmps71
    go_wp2_with (go_at_call 87; (with_reducible refine HT.out.mono ?_); rintro e w1 ⟨a, cap, rfl, hm⟩; have HM := hid hm; clear hm)
    go_ret3
    exact ⟨a, cap, rfl, HM.out⟩
end Go.Proofs.Ytppjojjejabaeaa
