/-
  LAYER 7 (msg), THE DOCUMENT's ANSWER: ToVoters; the law's sameInts, pick.
-/
import Derived.Test.YtppjojjejabaeaaMsRefB
namespace Go.Proofs.Ytppjojjejabaeaa
open Go.RowKit
set_option linter.unusedVariables false
set_option maxRecDepth 100000

/-- What ToVoters leaves. -/
def TVPost (w : World) (q : Option (List Int × List UInt8)) (e : Ending) (w' : World) : Prop :=
  match q with
  | none => e = .returned (.tuple #[.slice none 0 0, .string ⟨#[]⟩, .bool false]) ∧ Below w.heap.size w w'
  | some (xs, r) => ∃ a cap, e = .returned (.tuple #[.slice a xs.length cap, .string (mk r), .bool true]) ∧ RMid numTy w w' (.slice a xs.length cap) xs
structure TVAt (w wr : World) (N k : Nat) (r0 r : List UInt8) (a : Option Addr) (cap : Nat) (vs : List Int) : Prop where
  mid : RMid numTy w wr (.slice a k cap) vs
  len : vs.length = k
  short : r.length ≤ maxLen
  eq : dNs N r0 = (dNs (N - k) r).map fun p => (vs ++ p.1, p.2)
def TVRel (w : World) (N : Nat) (r0 : List UInt8) (u6 u8 u9 : Value) (wr : World) : Prop :=
  ∃ (k : Nat) (r : List UInt8) (a : Option Addr) (cap : Nat) (vs : List Int), k ≤ N ∧ u6 = .string (mk r) ∧ u8 = .slice a k cap ∧ u9 = .int .i64 (k : Int) ∧ Hid (TVAt w wr N k r0 r a cap vs)
set_option maxHeartbeats 4000000 in
theorem refToVoters_any (l : List UInt8) (w : World) (hl : l.length ≤ maxLen) :
    Calls Try.prog 40 #[.string (mk l)] w (TVPost w (dV l)) := by
  obtain ⟨q, hq⟩ : ∃ q, dV l = q := ⟨_, rfl⟩
  rw [hq]
  have HNone : Hid (dV l = none → ∀ wx, Below w.heap.size w wx → TVPost w q (.returned (.tuple #[.slice none 0 0, .string ⟨#[]⟩, .bool false])) wx) := hid (fun h wx hb => by
    rw [← hq, h]
    exact ⟨rfl, hb⟩)
  have HSome : Hid (∀ xs r, dV l = some (xs, r) → ∀ n a cap wx, xs.length = n → RMid numTy w wx (.slice a n cap) xs → TVPost w q (.returned (.tuple #[.slice a n cap, .string (mk r), .bool true])) wx) := hid (fun xs r h n a cap wx hn hm => by
    subst hn
    rw [← hq, h]
    exact ⟨a, cap, rfl, hm⟩)
  clear hq
  cases hd : dI l with
  | none =>
    have HI := hid (rI_no hd hl w)
    have hv : dV l = none := by unfold dV; rw [hd]
    have HV := hid hv
    clear hd hv
    go_enter Try.func40, Try.ntmps40
    go_wp2_with (go_at_call 58; (with_reducible refine HI.out.mono ?_); rintro e w1 ⟨rfl, hb⟩)
    go_ret3
    exact HNone.out HV.out _ hb
  | some p =>
    obtain ⟨n, r0⟩ := p
    have HI := hid (rI_yes hd hl w)
    have hs := dI_shorter hd
    have hdv : dV l = if n < 0 ∨ 9 < n then none else dNs n.toNat r0 := by unfold dV; rw [hd]
    by_cases hn : n < 0
    · have HV : Hid (dV l = none) := hid (by rw [hdv, if_pos (.inl hn)])
      clear hd hdv
      go_enter Try.func40, Try.ntmps40
      go_wp2_with (go_at_call 58; (with_reducible refine HI.out.mono ?_); rintro e w1 ⟨rfl, hb⟩)
      go_ret3
      exact HNone.out HV.out _ hb
    by_cases hn9 : 9 < n
    · have HV : Hid (dV l = none) := hid (by rw [hdv, if_pos (.inr hn9)])
      clear hd hdv
      go_enter Try.func40, Try.ntmps40
      go_wp2_with (go_at_call 58; (with_reducible refine HI.out.mono ?_); rintro e w1 ⟨rfl, hb⟩)
      go_ret3
      exact HNone.out HV.out _ hb
    rw [if_neg (by omega)] at hdv
    obtain ⟨N, rfl⟩ : ∃ N : Nat, n = (N : Int) := ⟨n.toNat, by omega⟩
    rw [Int.toNat_natCast] at hdv
    have HV := hid hdv
    have hN9 : (N : Int) ≤ 9 := by omega
    clear hd hdv
    go_enter Try.func40, Try.ntmps40
    go_wp2_with (go_at_call 58; (with_reducible refine HI.out.mono ?_); rintro e w1 ⟨rfl, hb⟩)
    go_loopw [6, 8, 9] (TVRel w N r0) (fun _ _ u _ => N - (intOf u).toNat)
    case atStart => exact ⟨0, r0, none, 0, [], Nat.zero_le _, rfl, rfl, rfl, hid ⟨⟨rOwn_nil _, fun b e => by simp [Value.ownBlock] at e, hb⟩, rfl, by omega, by rw [Nat.sub_zero]; cases dNs N r0 <;> rfl⟩⟩
    case round =>
      obtain ⟨k, r, a, cap, vs, hk, rfl, rfl, rfl, H⟩ := hrel
      by_cases hkN : k < N
      · have hkI : (k : Int) < (N : Int) := by omega
        have hm : N - k = (N - (k + 1)) + 1 := by omega
        have heq := H.out.eq
        rw [hm, dNs] at heq
        cases hdr : dI r with
        | none =>
          rw [hdr] at heq
          have HI2 := hid (rI_no hdr H.out.short wr)
          have HV2 : Hid (dV l = none) := hid (by rw [HV.out, heq]; rfl)
          have HBw := hid H.out.mid.below
          clear hdr heq hm
          go_wp2_with (go_at_call 58; (with_reducible refine HI2.out.mono ?_); rintro e w2 ⟨rfl, hb2⟩)
          go_ret3
          exact HNone.out HV2.out _ (HBw.out.trans (hb2.mono HBw.out.size))
        | some p =>
          obtain ⟨x, r'⟩ := p
          rw [hdr] at heq
          have HI2 := hid (rI_yes hdr H.out.short wr)
          have hsr := dI_shorter hdr
          have HNx : Hid (∀ w2, Below wr.heap.size wr w2 → ∃ a2 cap2 w5, (Builtin.append_ #[23, 23] 23 #[.slice a k cap, .slice (some ⟨w2.heap.size, 0, none⟩) 1 1]).run Try.prog (w2.alloc (.cells #[.int .i64 x] 3)) = .ok (.slice a2 (k + 1) cap2) w5 ∧ Hid (TVRel w N r0 (.string (mk r')) (.slice a2 (k + 1) cap2) (.int .i64 ((k + 1 : Nat) : Int)) w5)) := hid (fun w2 hb2 => by
            obtain ⟨a2, cap2, w5, hr, hm5⟩ := (H.out.mid.later hb2).push numTy_ok 23 3 x #[.int .i64 x] rfl (by rw [H.out.len]; omega)
            rw [H.out.len] at hr hm5
            refine ⟨a2, cap2, w5, hr, hid ⟨k + 1, r', a2, cap2, vs ++ [x], by omega, rfl, rfl, rfl, hid ⟨hm5, by simp [H.out.len], by have := H.out.short; omega, ?_⟩⟩⟩
            rw [heq]
            simp only
            cases dNs (N - (k + 1)) r' with
            | none => rfl
            | some q => simp)
          clear hdr heq hm hsr
          go_wp2_with (first
            | (go_at_call 58; (with_reducible refine HI2.out.mono ?_); rintro e w2 ⟨rfl, hb2⟩; obtain ⟨a2, cap2, w5, hrun, HR⟩ := HNx.out _ hb2; have HRun := hid hrun; clear hrun)
            | (at_builtin; refine wpList_append_at HRun.out (by with_reducible rfl) rfl _ _ rfl rfl rfl rfl ?_))
          go_roundw
          case rel => exact HR.out
          case measure => simp [intOf]; omega
      · obtain rfl : k = N := by omega
        have heq := H.out.eq
        rw [Nat.sub_self] at heq
        have HV2 : Hid (dV l = some (vs, r)) := hid (by rw [HV.out, heq]; simp [dNs])
        clear heq
        go_wp2
        go_ret3
        exact HSome.out _ _ HV2.out _ _ _ _ H.out.len H.out.mid
end Go.Proofs.Ytppjojjejabaeaa
