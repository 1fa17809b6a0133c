/-
  GRis, MsRefA, MsRefB, MsRefC, MsRow, in one text.
-/
import Derived.Test.YtiffdhihhggkhaaMq0
import Derived.Test.YtiffdhihhggkhaaMq1
import Derived.Deep.DeepCutAuto
/-
  GENERAL: the document's Rising.
-/
namespace Go.Proofs.Ytiffdhihhggkhaa
open Go.RowKit
set_option linter.unusedVariables false
set_option maxRecDepth 100000

/-- The number ahead of the k-th one. -/
def prevZ (xs : List Int) (k : Nat) : Int := if k = 0 then 0 else xs.getD (k - 1) 0
def RisRel (xs : List Int) (w : World) (u : Value) (wr : World) : Prop :=
  ∃ k : Nat, k ≤ xs.length ∧ u = .int .i64 (k : Int) ∧ Below w.heap.size w wr ∧ Hid (risingF 0 xs = risingF (prevZ xs k) (xs.drop k)) ∧ Hid (0 < k → 1 ≤ prevZ xs k) ∧ Hid ((k : Int) ≤ prevZ xs k)
set_option maxHeartbeats 4000000 in
theorem refRising_any {w : World} {v : Value} {xs : List Int} (hv : RAt numTy w v xs) (hl : xs.length ≤ 1000000) :
    Calls Try.prog 63 #[v] w fun e w' => e = .returned (.bool (risingF 0 xs)) ∧ Below w.heap.size w w' := by
  obtain ⟨ao, cap, rfl, hat⟩ := nums_at hv
  have HAt : Hid (∀ wx, Below w.heap.size w wx → ∀ k, k < xs.length → ∃ sb so, ao = some ⟨sb, so, none⟩ ∧ wx.cell? ⟨sb, so + k, none⟩ = some (.int .i64 (xs.getD k 0))) := hid (fun wx hb k hk => by
    obtain ⟨sb, so, e, hlt, hc⟩ := hat k hk
    exact ⟨sb, so, e, (hb.cell (p := ⟨sb, so + k, none⟩) hlt).trans hc⟩)
  obtain ⟨b, hb⟩ : ∃ b, risingF 0 xs = b := ⟨_, rfl⟩
  rw [hb]
  have HB := hid hb
  clear hat hv hb
  go_enter Try.func63, Try.ntmps63
  go_wp2
  go_loopw [3] (RisRel xs w) (fun i _ => xs.length - (intOf i).toNat)
  case atStart => exact ⟨0, Nat.zero_le _, rfl, Below.refl _ _, hid (by simp [prevZ]), hid (by simp), hid (by simp [prevZ])⟩
  case round =>
    obtain ⟨k, hk, rfl, hbw, hR, hP, hQ⟩ := hrel
    by_cases hkl : k < xs.length
    · have hkI : (k : Int) < (xs.length : Int) := by omega
      obtain ⟨sb, so, rfl, c0⟩ := HAt.out _ hbw k hkl
      have hdrop : xs.drop k = xs.getD k 0 :: xs.drop (k + 1) := by
        rw [List.drop_eq_getElem_cons hkl]
        simp [List.getD, hkl]
      have hprev : prevZ xs (k + 1) = xs.getD k 0 := by unfold prevZ; simp
      have hR2 := hR.out
      rw [hdrop] at hR2
      rw [show risingF (prevZ xs k) (xs.getD k 0 :: xs.drop (k + 1)) = (decide (prevZ xs k < xs.getD k 0) && decide (xs.getD k 0 ≤ 9) && risingF (xs.getD k 0) (xs.drop (k + 1))) from rfl] at hR2
      have HNx : Hid (prevZ xs k < xs.getD k 0 → xs.getD k 0 ≤ 9 → ∀ wx, Below w.heap.size w wx → RisRel xs w (.int .i64 ((k : Int) + 1)) wx) := hid (fun h1 h2 wx hbx => ⟨k + 1, by omega, by push_cast; rfl, hbx, hid (by rw [hprev, hR2, decide_eq_true h1, decide_eq_true h2]; rfl), hid (fun _ => by rw [hprev]; have := hQ.out; omega), hid (by rw [hprev]; have := hQ.out; push_cast; omega)⟩)
      have HNo : Hid (¬ (prevZ xs k < xs.getD k 0 ∧ xs.getD k 0 ≤ 9) → risingF 0 xs = false) := hid (fun h => by
        rw [hR2]
        by_cases h1 : prevZ xs k < xs.getD k 0
        · rw [decide_eq_true h1, decide_eq_false (fun h2 => h ⟨h1, h2⟩)]; rfl
        · rw [decide_eq_false h1]; rfl)
      have HD : Hid (∀ nq, Below w.heap.size w (wr.drewN nq)) := hid (fun nq => below_drew hbw nq)
      have HJ : Hid (∀ j, k = j + 1 → wr.cell? ⟨sb, so + j, none⟩ = some (.int .i64 (prevZ xs k))) := hid (fun j hj => by
        subst hj
        have e0 : prevZ xs (j + 1) = xs.getD j 0 := by unfold prevZ; simp
        rw [e0]
        obtain ⟨sb', so', e, c⟩ := HAt.out _ hbw j (by omega)
        cases e
        exact c)
      have HZ : Hid (k = 0 → prevZ xs k = 0) := hid (fun h => by unfold prevZ; rw [if_pos h])
      have hP1 := hP.out
      have hQ1 := hQ.out
      clear hR2 hdrop hprev hbw
      generalize xs.getD k 0 = x at *
      generalize prevZ xs k = p at *
      by_cases hx1 : x < 1
      · have d1 : decide (x < 1) = true := decide_eq_true hx1
        obtain rfl : b = false := HB.out.symm.trans (HNo.out (by omega))
        go_wp2
        go_quiet (fail)
        all_goals
          go_wp2
          go_ret
          exact ⟨rfl, HD.out _⟩
      · have d1 : decide (x < 1) = false := decide_eq_false hx1
        by_cases hx9 : 9 < x
        · have d2 : decide (9 < x) = true := decide_eq_true hx9
          obtain rfl : b = false := HB.out.symm.trans (HNo.out (by omega))
          go_wp2
          go_quiet (fail)
          all_goals
            go_wp2
            go_ret
            exact ⟨rfl, HD.out _⟩
        · have d2 : decide (9 < x) = false := decide_eq_false hx9
          by_cases hk0 : k = 0
          · have d3 : decide (0 < (k : Int)) = false := decide_eq_false (by omega)
            have d4 : decide (0 < k) = false := decide_eq_false (by omega)
            have HR2 := hid (fun nq => HNx.out (by have := HZ.out hk0; omega) (by omega) _ (HD.out nq))
            have HK0 := hid hk0
            clear hk0
            go_wp2
            go_quiet (fail)
            all_goals
              go_wp2
              go_roundw
              case rel => exact HR2.out _
              case measure => simp [intOf]; omega
          · obtain ⟨j, hj⟩ : ∃ j, k = j + 1 := ⟨k - 1, by omega⟩
            have cj := HJ.out j hj
            have hWk : IntKind.i64.wrap ((k : Int) - 1) = (j : Int) := by rw [show (k : Int) - 1 = (j : Int) by omega]; exact IntWalk.i64_in _ (by omega)
            have hjI : (j : Int) < (xs.length : Int) := by omega
            have hkp : (0 : Int) < (k : Int) := by omega
            have d3 : decide (0 < (k : Int)) = true := decide_eq_true hkp
            have d4 : decide (0 < k) = true := decide_eq_true (by omega)
            have HJ2 := hid hj
            clear hj hk0
            by_cases hxp : x ≤ p
            · have d5 : decide (x ≤ p) = true := decide_eq_true hxp
              obtain rfl : b = false := HB.out.symm.trans (HNo.out (by omega))
              go_wp2
              go_quiet (fail)
              all_goals
                go_wp2
                go_ret
                exact ⟨rfl, HD.out _⟩
            · have d5 : decide (x ≤ p) = false := decide_eq_false hxp
              have HR2 := hid (fun nq => HNx.out (by omega) (by omega) _ (HD.out nq))
              go_wp2
              go_quiet (fail)
              all_goals
                go_wp2
                go_roundw
                case rel => exact HR2.out _
                case measure => simp [intOf]; omega
    · obtain rfl : k = xs.length := by omega
      have e : risingF 0 xs = true := by rw [hR.out, List.drop_length]; rfl
      obtain rfl : b = true := HB.out.symm.trans e
      have h9 := (risingF_len xs 0 e (by omega)).1
      have h9I : (xs.length : Int) ≤ 9 := by omega
      have HBw := hid hbw
      clear e h9 hbw
      go_wp2
      go_ret
      exact ⟨rfl, HBw.out⟩
end Go.Proofs.Ytiffdhihhggkhaa

/-
  LAYER 7 (msg), THE DOCUMENT's ANSWER: in, Rising, Voters, ToVoters.
-/
namespace Go.Proofs.Ytiffdhihhggkhaa
open Go.RowKit
set_option linter.unusedVariables false
set_option maxRecDepth 100000

end Go.Proofs.Ytiffdhihhggkhaa


/-
  LAYER 7 (msg), THE DOCUMENT's ANSWER: Voters, ToVoters; the law's sameInts.
-/
namespace Go.Proofs.Ytiffdhihhggkhaa
open Go.RowKit
set_option linter.unusedVariables false
set_option maxRecDepth 100000

theorem eI_len {n : Int} (h : i64b n) : (eI n).length ≤ 10 := enc_length (nat64_lt h.1 h.2)
theorem encs_len : ∀ (l : List Int), (∀ x ∈ l, i64b x) → (encs l).length ≤ 10 * l.length
  | [], _ => by simp [encs]
  | x :: r, h => by
    have e : encs (x :: r) = eI x ++ encs r := by simp [encs, eI]
    rw [e, List.length_append, List.length_cons]
    have h1 := eI_len (h x (by simp))
    have h2 := encs_len r (fun y hy => h y (by simp [hy]))
    omega
theorem encs_snocI (l : List Int) (x : Int) : encs (l ++ [x]) = encs l ++ eI x := by simp [encs, eI]
theorem rInt_any (n : Int) (w : World) (h : i64b n) : Calls Try.prog 61 #[.int .i64 n] w fun e w' => e = .returned (.string (mk (eI n))) ∧ Below w.heap.size w w' := refInt_any n w h.1 h.2
def VotRel (w : World) (xs : List Int) (u3 u4 : Value) (wr : World) : Prop :=
  ∃ k : Nat, k ≤ xs.length ∧ u3 = .string (mk (eI xs.length ++ encs (xs.take k))) ∧ u4 = .int .i64 (k : Int) ∧ Below w.heap.size w wr
set_option maxHeartbeats 2000000 in
theorem refVoters_any {w : World} {v : Value} {xs : List Int} (hv : RAt numTy w v xs) (hx : ∀ x ∈ xs, i64b x) (hl : xs.length ≤ 1000000) :
    Calls Try.prog 53 #[v] w fun e w' => e = .returned (.string (mk (eV xs))) ∧ Below w.heap.size w w' := by
  obtain ⟨ao, cap, rfl, hat⟩ := nums_at hv
  have HAt : Hid (∀ wx, Below w.heap.size w wx → ∀ k, k < xs.length → ∃ sb so, ao = some ⟨sb, so, none⟩ ∧ wx.cell? ⟨sb, so + k, none⟩ = some (.int .i64 (xs.getD k 0))) := hid (fun wx hb k hk => by
    obtain ⟨sb, so, e, hlt, hc⟩ := hat k hk
    exact ⟨sb, so, e, (hb.cell (p := ⟨sb, so + k, none⟩) hlt).trans hc⟩)
  have HI0 := hid (rInt_any (xs.length : Int) w ⟨by omega, by omega⟩)
  have HX := hid hx
  have HFin : Hid (∀ wr, VotRel w xs (.string (mk (eI xs.length ++ encs (xs.take xs.length)))) (.int .i64 (xs.length : Int)) wr → True) := hid (fun _ _ => trivial)
  have hlen0 := eI_len (n := (xs.length : Int)) ⟨by omega, by omega⟩
  have HL0 := hid hlen0
  clear hat hv hx HFin hlen0
  go_enter Try.func53, Try.ntmps53
  go_wp2_with (go_at_call 61; (with_reducible refine HI0.out.mono ?_); rintro e w1 ⟨rfl, hb1⟩)
  go_loopw [3, 4] (VotRel w xs) (fun _ i _ => xs.length - (intOf i).toNat)
  case atStart => exact ⟨0, Nat.zero_le _, by simp [encs], rfl, hb1⟩
  case round =>
    obtain ⟨k, hk, rfl, rfl, hbw⟩ := hrel
    by_cases hkl : k < xs.length
    · have hkI : (k : Int) < (xs.length : Int) := by omega
      obtain ⟨sb, so, rfl, c0⟩ := HAt.out _ hbw k hkl
      have hget : xs.getD k 0 = xs[k] := by simp [List.getD, hkl]
      have hxk := HX.out _ (List.getElem_mem hkl)
      rw [← hget] at hxk
      have HTk : Hid (encs (xs.take (k + 1)) = encs (xs.take k) ++ eI (xs.getD k 0)) := hid (by rw [List.take_add_one, List.getElem?_eq_getElem hkl, hget]; exact encs_snocI _ _)
      have hsz : (mk (eI xs.length ++ encs (xs.take k))).size ≤ 10 + 10 * k := by
        rw [mk_size, List.length_append]
        have h1 := HL0.out
        have h2 := encs_len (xs.take k) (fun y hy => HX.out y (List.mem_of_mem_take hy))
        rw [List.length_take] at h2
        omega
      have hsz2 : (mk (eI (xs.getD k 0))).size ≤ 10 := by rw [mk_size]; exact eI_len hxk
      have HI := hid (rInt_any (xs.getD k 0) wr hxk)
      have HAp : Hid (mk (eI xs.length ++ encs (xs.take k)) ++ mk (eI (xs.getD k 0)) = mk (eI xs.length ++ encs (xs.take (k + 1)))) := hid (by rw [mk_append, HTk.out, List.append_assoc])
      have HBw := hid hbw
      clear hget HTk hbw hxk
      obtain ⟨S, hS⟩ : ∃ S, mk (eI xs.length ++ encs (xs.take k)) = S := ⟨_, rfl⟩
      rw [hS] at hsz HAp
      have HS := hid hS
      rw [hS]
      clear hS
      generalize xs.getD k 0 = x at *
      generalize mk (eI x) = t at *
      go_wp2_with (go_at_call 61; (with_reducible refine HI.out.mono ?_); rintro e w2 ⟨rfl, hb2⟩)
      go_roundw
      case rel => exact ⟨k + 1, by omega, by rw [← HAp.out], by go_num, HBw.out.trans (hb2.mono HBw.out.size)⟩
      case measure => simp [intOf]; omega
    · obtain rfl : k = xs.length := by omega
      have HBw := hid hbw
      clear hbw
      go_wp2
      go_ret
      exact ⟨by rw [List.take_length]; rfl, HBw.out⟩
theorem rI_no {l : List UInt8} (h : dI l = none) (hl : l.length ≤ maxLen) (w : World) : Calls Try.prog 72 #[.string (mk l)] w fun e w' => e = .returned (.tuple #[.int .i64 0, .string ⟨#[]⟩, .bool false]) ∧ Below w.heap.size w w' := by
  have := refToInt_any (mk l) w (by rw [mk_size]; exact hl)
  rw [mk_data, dI_none_of_toInt.2 h] at this
  exact this
theorem rI_yes {l r : List UInt8} {n : Int} (h : dI l = some (n, r)) (hl : l.length ≤ maxLen) (w : World) : Calls Try.prog 72 #[.string (mk l)] w fun e w' => e = .returned (.tuple #[.int .i64 n, .string (mk r), .bool true]) ∧ Below w.heap.size w w' := by
  have := refToInt_any (mk l) w (by rw [mk_size]; exact hl)
  unfold dI at h
  obtain ⟨⟨v, r'⟩, h1, h2⟩ := Option.map_eq_some_iff.1 h
  simp only [Prod.mk.injEq] at h2
  obtain ⟨rfl, rfl⟩ := h2
  rw [mk_data, h1] at this
  exact this
theorem dI_shorter {l r : List UInt8} {n : Int} (h : dI l = some (n, r)) : r.length < l.length := by
  obtain ⟨_, rfl⟩ := dI_sound h
  rw [List.length_append]
  have := enc_pos (nat64 n)
  unfold eI
  omega
end Go.Proofs.Ytiffdhihhggkhaa

/-
  LAYER 7 (msg), THE DOCUMENT's ANSWER: ToVoters; the law's sameInts, pick.
-/
namespace Go.Proofs.Ytiffdhihhggkhaa
open Go.RowKit
set_option linter.unusedVariables false
set_option maxRecDepth 100000

/-- What ToVoters leaves. -/
def TVPost (w : World) (q : Option (List Int × List UInt8)) (e : Ending) (w' : World) : Prop :=
  match q with
  | none => e = .returned (.tuple #[.slice none 0 0, .string ⟨#[]⟩, .bool false]) ∧ Below w.heap.size w w'
  | some (xs, r) => ∃ a cap, e = .returned (.tuple #[.slice a xs.length cap, .string (mk r), .bool true]) ∧ RMid numTy w w' (.slice a xs.length cap) xs
structure TVAt (w wr : World) (N k : Nat) (r0 r : List UInt8) (a : Option Addr) (cap : Nat) (vs : List Int) : Prop where
  mid : RMid numTy w wr (.slice a k cap) vs
  len : vs.length = k
  short : r.length ≤ maxLen
  eq : dNs N r0 = (dNs (N - k) r).map fun p => (vs ++ p.1, p.2)
def TVRel (w : World) (N : Nat) (r0 : List UInt8) (u6 u8 u9 : Value) (wr : World) : Prop :=
  ∃ (k : Nat) (r : List UInt8) (a : Option Addr) (cap : Nat) (vs : List Int), k ≤ N ∧ u6 = .string (mk r) ∧ u8 = .slice a k cap ∧ u9 = .int .i64 (k : Int) ∧ Hid (TVAt w wr N k r0 r a cap vs)
set_option maxHeartbeats 4000000 in
theorem refToVoters_any (l : List UInt8) (w : World) (hl : l.length ≤ maxLen) :
    Calls Try.prog 62 #[.string (mk l)] w (TVPost w (dV l)) := by
  obtain ⟨q, hq⟩ : ∃ q, dV l = q := ⟨_, rfl⟩
  rw [hq]
  have HNone : Hid (dV l = none → ∀ wx, Below w.heap.size w wx → TVPost w q (.returned (.tuple #[.slice none 0 0, .string ⟨#[]⟩, .bool false])) wx) := hid (fun h wx hb => by
    rw [← hq, h]
    exact ⟨rfl, hb⟩)
  have HSome : Hid (∀ xs r, dV l = some (xs, r) → ∀ n a cap wx, xs.length = n → RMid numTy w wx (.slice a n cap) xs → TVPost w q (.returned (.tuple #[.slice a n cap, .string (mk r), .bool true])) wx) := hid (fun xs r h n a cap wx hn hm => by
    subst hn
    rw [← hq, h]
    exact ⟨a, cap, rfl, hm⟩)
  clear hq
  cases hd : dI l with
  | none =>
    have HI := hid (rI_no hd hl w)
    have hv : dV l = none := by unfold dV; rw [hd]
    have HV := hid hv
    clear hd hv
    go_enter Try.func62, Try.ntmps62
    go_wp2_with (go_at_call 72; (with_reducible refine HI.out.mono ?_); rintro e w1 ⟨rfl, hb⟩)
    go_ret3
    exact HNone.out HV.out _ hb
  | some p =>
    obtain ⟨n, r0⟩ := p
    have HI := hid (rI_yes hd hl w)
    have hs := dI_shorter hd
    have hdv : dV l = if n < 0 ∨ 9 < n then none else dNs n.toNat r0 := by unfold dV; rw [hd]
    by_cases hn : n < 0
    · have HV : Hid (dV l = none) := hid (by rw [hdv, if_pos (.inl hn)])
      clear hd hdv
      go_enter Try.func62, Try.ntmps62
      go_wp2_with (go_at_call 72; (with_reducible refine HI.out.mono ?_); rintro e w1 ⟨rfl, hb⟩)
      go_ret3
      exact HNone.out HV.out _ hb
    by_cases hn9 : 9 < n
    · have HV : Hid (dV l = none) := hid (by rw [hdv, if_pos (.inr hn9)])
      clear hd hdv
      go_enter Try.func62, Try.ntmps62
      go_wp2_with (go_at_call 72; (with_reducible refine HI.out.mono ?_); rintro e w1 ⟨rfl, hb⟩)
      go_ret3
      exact HNone.out HV.out _ hb
    rw [if_neg (by omega)] at hdv
    obtain ⟨N, rfl⟩ : ∃ N : Nat, n = (N : Int) := ⟨n.toNat, by omega⟩
    rw [Int.toNat_natCast] at hdv
    have HV := hid hdv
    have hN9 : (N : Int) ≤ 9 := by omega
    clear hd hdv
    go_enter Try.func62, Try.ntmps62
    go_wp2_with (go_at_call 72; (with_reducible refine HI.out.mono ?_); rintro e w1 ⟨rfl, hb⟩)
    go_loopw [6, 8, 9] (TVRel w N r0) (fun _ _ u _ => N - (intOf u).toNat)
    case atStart => exact ⟨0, r0, none, 0, [], Nat.zero_le _, rfl, rfl, rfl, hid ⟨⟨rOwn_nil _, fun b e => by simp [Value.ownBlock] at e, hb⟩, rfl, by omega, by rw [Nat.sub_zero]; cases dNs N r0 <;> rfl⟩⟩
    case round =>
      obtain ⟨k, r, a, cap, vs, hk, rfl, rfl, rfl, H⟩ := hrel
      by_cases hkN : k < N
      · have hkI : (k : Int) < (N : Int) := by omega
        have hm : N - k = (N - (k + 1)) + 1 := by omega
        have heq := H.out.eq
        rw [hm, dNs] at heq
        cases hdr : dI r with
        | none =>
          rw [hdr] at heq
          have HI2 := hid (rI_no hdr H.out.short wr)
          have HV2 : Hid (dV l = none) := hid (by rw [HV.out, heq]; rfl)
          have HBw := hid H.out.mid.below
          clear hdr heq hm
          go_wp2_with (go_at_call 72; (with_reducible refine HI2.out.mono ?_); rintro e w2 ⟨rfl, hb2⟩)
          go_ret3
          exact HNone.out HV2.out _ (HBw.out.trans (hb2.mono HBw.out.size))
        | some p =>
          obtain ⟨x, r'⟩ := p
          rw [hdr] at heq
          have HI2 := hid (rI_yes hdr H.out.short wr)
          have hsr := dI_shorter hdr
          have HNx : Hid (∀ w2, Below wr.heap.size wr w2 → ∃ a2 cap2 w5, (Builtin.append_ #[31, 31] 31 #[.slice a k cap, .slice (some ⟨w2.heap.size, 0, none⟩) 1 1]).run Try.prog (w2.alloc (.cells #[.int .i64 x] 3)) = .ok (.slice a2 (k + 1) cap2) w5 ∧ Hid (TVRel w N r0 (.string (mk r')) (.slice a2 (k + 1) cap2) (.int .i64 ((k + 1 : Nat) : Int)) w5)) := hid (fun w2 hb2 => by
            obtain ⟨a2, cap2, w5, hr, hm5⟩ := (H.out.mid.later hb2).push numTy_ok 31 3 x #[.int .i64 x] rfl (by rw [H.out.len]; omega)
            rw [H.out.len] at hr hm5
            refine ⟨a2, cap2, w5, hr, hid ⟨k + 1, r', a2, cap2, vs ++ [x], by omega, rfl, rfl, rfl, hid ⟨hm5, by simp [H.out.len], by have := H.out.short; omega, ?_⟩⟩⟩
            rw [heq]
            simp only
            cases dNs (N - (k + 1)) r' with
            | none => rfl
            | some q => simp)
          clear hdr heq hm hsr
          go_wp2_with (first
            | (go_at_call 72; (with_reducible refine HI2.out.mono ?_); rintro e w2 ⟨rfl, hb2⟩; obtain ⟨a2, cap2, w5, hrun, HR⟩ := HNx.out _ hb2; have HRun := hid hrun; clear hrun)
            | (at_builtin; refine wpList_append_at HRun.out (by with_reducible rfl) rfl _ _ rfl rfl rfl rfl ?_))
          go_roundw
          case rel => exact HR.out
          case measure => simp [intOf]; omega
      · obtain rfl : k = N := by omega
        have heq := H.out.eq
        rw [Nat.sub_self] at heq
        have HV2 : Hid (dV l = some (vs, r)) := hid (by rw [HV.out, heq]; simp [dNs])
        clear heq
        go_wp2
        go_ret3
        exact HSome.out _ _ HV2.out _ _ _ _ H.out.len H.out.mid
end Go.Proofs.Ytiffdhihhggkhaa

/-
  LAYER 7 (msg): how a message lies in memory, and comes in.
-/
namespace Go.Proofs.Ytiffdhihhggkhaa
open Go.ChangeShapes Go.WideShapes Go.ChangeAt Go.RowKit
open Go.WideMaps Go.WideElems Go.Deep Go.Joins
set_option linter.unusedVariables false
set_option maxRecDepth 100000

def meCells (e : Me) : List Value := [.int .i64 e.idx, .int .i64 e.term, .int .i64 e.kind, .string e.dt]
def enTy : RowTy Me := ⟨26, 49, 4, 40, meCells, .agg #[.int .i64 0, .int .i64 0, .int .i64 0, .string ⟨#[]⟩]⟩
theorem enTy_ok : enTy.Ok := ⟨fun _ => rfl, fun x u hu => by simp [enTy, meCells] at hu; rcases hu with rfl | rfl | rfl | rfl <;> rfl, by decide, Try.underlying26, by kernel_rfl, by kernel_rfl, rfl, by decide⟩
/-- A message as a value; its entries and its voters as the slices ev and vv. -/
def msV (m : Ms) (ev vv : Value) : Value := .agg #[.int .i64 m.kind, .int .i64 m.fr, .int .i64 m.to_, .int .i64 m.term, .int .i64 m.index, .int .i64 m.logTerm, .int .i64 m.commit, .bool m.ok, ev, .int .i64 m.bi, .int .i64 m.bt, vv, .string m.bd, .string m.dt]
structure MeIn (e : Me) : Prop where
  idx : I64' e.idx
  term : I64' e.term
  kind : I64' e.kind
  dt : e.dt.size ≤ maxLen
structure MsIn (m : Ms) : Prop where
  heads : ∀ n ∈ heads m, I64' n
  ents : ∀ e ∈ m.ents, MeIn e
  el : m.ents.length ≤ maxLen
  bi : I64' m.bi
  bt : I64' m.bt
  vot : ∀ n ∈ m.vot, I64' n
  vl : m.vot.length ≤ maxLen
  bd : m.bd.size ≤ maxLen
  dt : m.dt.size ≤ maxLen
/-- Its rows lie in the world. -/
structure MsAt (w : World) (m : Ms) (ev vv : Value) : Prop where
  ents : RAt enTy w ev m.ents
  vot : RAt numTy w vv m.vot
theorem MsAt.below {w w' : World} {m : Ms} {ev vv : Value} (h : MsAt w m ev vv) (hb : Below w.heap.size w w') : MsAt w' m ev vv := ⟨h.ents.below hb, h.vot.below hb⟩
theorem trodBool {H : Type} {enc : TypeId × Value → H} {W : World} {n : Nat} {v : Value} {y : DataW H × List MemPlace} (h : DataW.trod enc Try.prog W 0 (fun _ => true) true n 4 [v] = some y) : ∃ b : Bool, v = .bool b := by
  obtain ⟨b, hcs, _⟩ := DataW.trod_bool Try.underlying4 h
  simp at hcs
  exact ⟨b, hcs⟩
theorem ents_trod {H : Type} {enc : TypeId × Value → H} {W : World} {n : Nat} {v : Value} {y : DataW H × List MemPlace} (h : DataW.trod enc Try.prog W 0 (fun _ => true) true n 26 [v] = some y) :
    ∃ l : List Me, RAt enTy W v l ∧ (∀ e ∈ l, MeIn e) ∧ l.length ≤ maxLen :=
  structs_trod enTy_ok h Try.underlying49 (by kernel_rfl) (by kernel_rfl) rfl MeIn (fun c hc => by
    obtain ⟨_, _, t0⟩ := hc 0 _ rfl
    obtain ⟨_, _, t1⟩ := hc 1 _ rfl
    obtain ⟨_, _, t2⟩ := hc 2 _ rfl
    obtain ⟨_, _, t3⟩ := hc 3 _ rfl
    obtain ⟨k0, e0, b0⟩ := trodInt t0
    obtain ⟨k1, e1, b1⟩ := trodInt t1
    obtain ⟨k2, e2, b2⟩ := trodInt t2
    obtain ⟨k3, e3, b3⟩ := trodStr t3
    refine ⟨⟨k0, k1, k2, k3⟩, ⟨b0, b1, b2, b3⟩, fun j u hj => ?_⟩
    match j, hj with
    | 0, hj => rw [e0]; simpa [enTy, meCells] using hj
    | 1, hj => rw [e1]; simpa [enTy, meCells] using hj
    | 2, hj => rw [e2]; simpa [enTy, meCells] using hj
    | 3, hj => rw [e3]; simpa [enTy, meCells] using hj)
end Go.Proofs.Ytiffdhihhggkhaa


