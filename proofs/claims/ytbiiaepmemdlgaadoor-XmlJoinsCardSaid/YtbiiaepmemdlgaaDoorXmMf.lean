/-
  LAYER 11 (xml), THE PROGRAM: reference (written by tools/gen11_ref.py).
-/
import Derived.Test.YtbiiaepmemdlgaaDoorXmMe
namespace Go.Proofs.YtbiiaepmemdlgaaDoor
open Go.RowKit
set_option linter.unusedVariables false
set_option maxRecDepth 100000

def refV (o : Option (List UInt8 × List UInt8)) : Value := match o with
  | some x => .tuple #[.string (mk x.1), .string (mk x.2), .bool true]
  | none => .tuple #[.string ⟨#[]⟩, .string ⟨#[]⟩, .bool false]
/-- Where there is no reference the rest may be any. -/
def RefPost (w : World) (o : Option (List UInt8 × List UInt8)) (e : Ending) (w' : World) : Prop :=
  (∀ x, o = some x → e = .returned (.tuple #[.string (mk x.1), .string (mk x.2), .bool true])) ∧ (o = none → ∃ r : List UInt8, r.length ≤ 100000 ∧ e = .returned (.tuple #[.string ⟨#[]⟩, .string (mk r), .bool false])) ∧ Below w.heap.size w w'
theorem str_eqb (s t : ByteArray) : (s.toList == t.toList) = decide (s = t) := by
  rw [Bool.eq_iff_iff]
  simp only [beq_iff_eq, decide_eq_true_eq, Lib.toList_data]
  exact ⟨fun h => str_ext h, fun h => by rw [h]⟩
theorem mk_inj {l m : List UInt8} (h : mk l = mk m) : l = m := by
  have := congrArg (fun s : ByteArray => s.data.toList) h
  exact this
theorem eqb_yes {l : List UInt8} {s : ByteArray} (h : s = mk l) : (s.toList == (mk l).toList) = true := by rw [str_eqb]; simp [h]
theorem eqb_no {l m : List UInt8} (h : m ≠ l) : ((mk l).toList == (mk m).toList) = false := by
  rw [str_eqb]; simp; exact fun e => h (mk_inj e).symm
/-- The k-th name, and its character. -/
def nmK (k : Nat) : List UInt8 := if k = 0 then [97, 109, 112] else if k = 1 then [108, 116] else if k = 2 then [103, 116] else if k = 3 then [113, 117, 111, 116] else [97, 112, 111, 115]
def chK (k : Nat) : UInt8 := if k = 0 then 38 else if k = 1 then 60 else if k = 2 then 62 else if k = 3 then 34 else 39
/-- None of the names ahead of the k-th. -/
def notNm (k : Nat) (nm : List UInt8) : Prop := ∀ j, j < k → nm ≠ nmK j
theorem notNm_next {k : Nat} {nm : List UInt8} (h : notNm k nm) (e : nm ≠ nmK k) : notNm (k + 1) nm := fun j hj => by
  rcases Nat.lt_or_ge j k with h1 | h1
  · exact h j h1
  · obtain rfl : j = k := by omega
    exact e
theorem den_is {k : Nat} (hk : k < 5) : denX (nmK k) = some [chK k] := by
  match k, hk with
  | 0, _ | 1, _ | 2, _ | 3, _ | 4, _ => rfl
  | n + 5, h => omega
theorem den_hash {nm : List UInt8} (h : notNm 5 nm) : denX nm = match past [35] nm with
    | some d => numbX d
    | none => none := by
  have h1 := h 0 (by decide)
  have h2 := h 1 (by decide)
  have h3 := h 2 (by decide)
  have h4 := h 3 (by decide)
  have h5 := h 4 (by decide)
  simp only [nmK] at h1 h2 h3 h4 h5
  unfold denX
  rw [if_neg (by simpa using h1), if_neg (by simpa using h2), if_neg (by simpa using h3), if_neg (by simpa using h4), if_neg (by simpa using h5)]
  cases nm with
  | nil => rfl
  | cons c r =>
    by_cases hc : c = 35
    · subst hc; rfl
    · have : past [35] (c :: r) = none := by simp [past, List.isPrefixOf, Ne.symm hc]
      rw [this]
      split
      · rename_i e; exact absurd (List.cons.inj e).1 hc
      · rfl
theorem ix0 (wx : World) : (Instr.index 85 (.agg #[.string ⟨#[38]⟩, .string ⟨#[97, 109, 112]⟩, .string ⟨#[60]⟩, .string ⟨#[108, 116]⟩, .string ⟨#[62]⟩, .string ⟨#[103, 116]⟩, .string ⟨#[34]⟩, .string ⟨#[113, 117, 111, 116]⟩, .string ⟨#[39]⟩, .string ⟨#[97, 112, 111, 115]⟩]) (.int .i64 0)).run Tryd.prog wx = .ok (.agg #[.string ⟨#[38]⟩, .string ⟨#[97, 109, 112]⟩]) wx := by kernel_rfl
theorem ix1 (wx : World) : (Instr.index 85 (.agg #[.string ⟨#[38]⟩, .string ⟨#[97, 109, 112]⟩, .string ⟨#[60]⟩, .string ⟨#[108, 116]⟩, .string ⟨#[62]⟩, .string ⟨#[103, 116]⟩, .string ⟨#[34]⟩, .string ⟨#[113, 117, 111, 116]⟩, .string ⟨#[39]⟩, .string ⟨#[97, 112, 111, 115]⟩]) (.int .i64 1)).run Tryd.prog wx = .ok (.agg #[.string ⟨#[60]⟩, .string ⟨#[108, 116]⟩]) wx := by kernel_rfl
theorem ix2 (wx : World) : (Instr.index 85 (.agg #[.string ⟨#[38]⟩, .string ⟨#[97, 109, 112]⟩, .string ⟨#[60]⟩, .string ⟨#[108, 116]⟩, .string ⟨#[62]⟩, .string ⟨#[103, 116]⟩, .string ⟨#[34]⟩, .string ⟨#[113, 117, 111, 116]⟩, .string ⟨#[39]⟩, .string ⟨#[97, 112, 111, 115]⟩]) (.int .i64 2)).run Tryd.prog wx = .ok (.agg #[.string ⟨#[62]⟩, .string ⟨#[103, 116]⟩]) wx := by kernel_rfl
theorem ix3 (wx : World) : (Instr.index 85 (.agg #[.string ⟨#[38]⟩, .string ⟨#[97, 109, 112]⟩, .string ⟨#[60]⟩, .string ⟨#[108, 116]⟩, .string ⟨#[62]⟩, .string ⟨#[103, 116]⟩, .string ⟨#[34]⟩, .string ⟨#[113, 117, 111, 116]⟩, .string ⟨#[39]⟩, .string ⟨#[97, 112, 111, 115]⟩]) (.int .i64 3)).run Tryd.prog wx = .ok (.agg #[.string ⟨#[34]⟩, .string ⟨#[113, 117, 111, 116]⟩]) wx := by kernel_rfl
theorem ix4 (wx : World) : (Instr.index 85 (.agg #[.string ⟨#[38]⟩, .string ⟨#[97, 109, 112]⟩, .string ⟨#[60]⟩, .string ⟨#[108, 116]⟩, .string ⟨#[62]⟩, .string ⟨#[103, 116]⟩, .string ⟨#[34]⟩, .string ⟨#[113, 117, 111, 116]⟩, .string ⟨#[39]⟩, .string ⟨#[97, 112, 111, 115]⟩]) (.int .i64 4)).run Tryd.prog wx = .ok (.agg #[.string ⟨#[39]⟩, .string ⟨#[97, 112, 111, 115]⟩]) wx := by kernel_rfl
theorem ixK (k : Nat) (hk : k < 5) (wx : World) : (Instr.index 85 (.agg #[.string ⟨#[38]⟩, .string ⟨#[97, 109, 112]⟩, .string ⟨#[60]⟩, .string ⟨#[108, 116]⟩, .string ⟨#[62]⟩, .string ⟨#[103, 116]⟩, .string ⟨#[34]⟩, .string ⟨#[113, 117, 111, 116]⟩, .string ⟨#[39]⟩, .string ⟨#[97, 112, 111, 115]⟩]) (.int .i64 (k : Nat))).run Tryd.prog wx = .ok (.agg #[.string (mk [chK k]), .string (mk (nmK k))]) wx := by
  match k, hk with
  | 0, _ => exact ix0 wx
  | 1, _ => exact ix1 wx
  | 2, _ => exact ix2 wx
  | 3, _ => exact ix3 wx
  | 4, _ => exact ix4 wx
  | n + 5, h => omega
set_option maxHeartbeats 4000000 in
theorem reference_any {B : Nat} {w : World} (hG : Gb B w) (hB : B ≤ w.heap.size) (s : ByteArray) (hl : s.size ≤ 100000) :
    Calls Tryd.prog 40 #[.string s] w (RefPost w (refX s.data.toList)) := by
  have hcut := cut_any hG s ⟨#[59]⟩ (by decide) (by omega)
  rw [show (⟨#[59]⟩ : ByteArray).data.toList = [59] from rfl, cutV] at hcut
  cases hu : upTo [59] s.data.toList with
  | none =>
    rw [hu] at hcut
    have HC : Hid (Calls Tryd.prog 33 #[.string s, .string ⟨#[59]⟩] w fun x w' => x = .returned (.tuple #[.string (mk s.data.toList), .string (mk []), .bool false]) ∧ Below w.heap.size w w') := hid hcut
    have HN : Hid (refX s.data.toList = none) := hid (by unfold refX; rw [hu]; rfl)
    clear hcut hu hG
    go_enter Tryd.func40, Tryd.ntmps40
    go_wp2_with (go_at_call 33; (with_reducible refine HC.out.mono ?_); rintro e w1 ⟨rfl, hb1⟩)
    go_ret3
    exact ⟨fun x hx => (by rw [HN.out] at hx; cases hx), fun _ => ⟨[], by simp, rfl⟩, hb1⟩
  | some ab =>
    obtain ⟨nm, rs⟩ := ab
    rw [hu] at hcut
    have hlt := (upTo_lt hu).1
    rw [str_len] at hlt
    have HC : Hid (Calls Tryd.prog 33 #[.string s, .string ⟨#[59]⟩] w fun x w' => x = .returned (.tuple #[.string (mk nm), .string (mk rs), .bool true]) ∧ Below w.heap.size w w') := hid hcut
    have HR : Hid (refX s.data.toList = (denX nm).map fun t => (t, rs)) := hid (by unfold refX; rw [hu]; rfl)
    have HS : Hid (rs.length ≤ 100000) := hid (by omega)
    have hnl : nm.length ≤ 100000 := by omega
    have HH := hid (fun (w1 : World) (h : Below w.heap.size w w1) => hG.below (h.mono hB))
    have HP := hid (fun (wx : World) => cutPrefix_any (mk nm) ⟨#[35]⟩ wx)
    have HM := hid (fun (wx : World) (d : List UInt8) (h : Gb B wx) (h2 : B ≤ wx.heap.size) (h3 : d.length ≤ 100000) => numbered_any h h2 (mk d) (by rw [mk_size]; exact h3))
    clear hcut hu hlt hl
    go_enter Tryd.func40, Tryd.ntmps40
    go_wp2_with (go_at_call 33; (with_reducible refine HC.out.mono ?_))
    first | rintro e w1 rfl hb1 | rintro e w1 ⟨rfl, hb1⟩
    obtain ⟨n0, n1, n2, n3, n4, n5, n6, n7, n8, n9⟩ := (HH.out w1 hb1).names
    have hG1 := hid (HH.out w1 hb1)
    clear HH
    go_wp2
    clear n0 n1 n2 n3 n4 n5 n6 n7 n8 n9
    go_loopw [21] (fun i wr => ∃ k : Nat, k ≤ 5 ∧ i = .int .i64 k ∧ Hid (notNm k nm) ∧ Below w1.heap.size w1 wr) (fun i _ => 5 - (intOf i).toNat)
    case atStart => exact ⟨0, by omega, rfl, hid (fun j hj => absurd hj (by omega)), Below.refl _ _⟩
    case round =>
      obtain ⟨k, hk, rfl, hnn, hbr⟩ := hrel
      have hbw : Below w.heap.size w wr := hb1.trans (hbr.mono hb1.size)
      by_cases hk5 : k < 5
      · have x1 := fun wx => ixK k hk5 wx
        by_cases e : nm = nmK k
        · have HN : Hid (refX s.data.toList = some ([chK k], rs)) := hid (by rw [HR.out, e, den_is hk5]; rfl)
          have q1 : ((mk (nmK k)).toList == (mk nm).toList) = true := by rw [e]; simp
          clear e HR HP HM
          generalize mk (nmK k) = M at *
          generalize mk nm = N at *
          go_wp2
          go_ret3
          exact ⟨fun x hx => (by rw [HN.out] at hx; cases hx; rfl), fun hx => (by rw [HN.out] at hx; cases hx), hbw.trans (by first | (with_reducible assumption) | exact (Below.alloc (Below.refl _ _) hbw.size _))⟩
        · have hn2 := hid (notNm_next hnn.out e)
          have q1 : ((mk (nmK k)).toList == (mk nm).toList) = false := eqb_no e
          clear e HR hnn HP HM
          generalize mk (nmK k) = M at *
          generalize mk nm = N at *
          go_wp2
          go_roundw
          case rel => exact ⟨k + 1, by omega, by go_num, hn2, hbr.trans (by first | (with_reducible assumption) | exact (Below.alloc (Below.refl _ _) hbr.size _))⟩
          case measure => simp [intOf]; omega
      · obtain rfl : k = 5 := by omega
        clear hk5
        have hD := den_hash hnn.out
        have hG2 := hG1.out.below (hbr.mono (Nat.le_trans hB hb1.size))
        have hBz : B ≤ wr.heap.size := Nat.le_trans hB hbw.size
        have HPP := HP.out wr
        rw [mk_data] at HPP
        cases hp : past [35] nm with
        | none =>
          rw [hp] at HPP hD
          have HQ : Hid (Calls Tryd.prog 32 #[.string (mk nm), .string ⟨#[35]⟩] wr fun e w' => e = .returned (.tuple #[.string (mk nm), .bool false]) ∧ wr = w') := hid HPP
          have HN : Hid (refX s.data.toList = none) := hid (by rw [HR.out, hD]; rfl)
          clear HPP hD HR hp
          go_wp2_with (go_at_call 32; (with_reducible refine HQ.out.mono ?_); rintro e w2 ⟨rfl, rfl⟩)
          go_ret3
          exact ⟨fun x hx => (by rw [HN.out] at hx; cases hx), fun _ => ⟨[], by simp, rfl⟩, hbw⟩
        | some d =>
          rw [hp] at HPP hD
          simp only at hD
          have HQ : Hid (Calls Tryd.prog 32 #[.string (mk nm), .string ⟨#[35]⟩] wr fun e w' => e = .returned (.tuple #[.string (mk d), .bool true]) ∧ wr = w') := hid HPP
          have HV := HM.out wr d hG2 hBz (by have := (past_lt hp).2; omega)
          rw [mk_data] at HV
          cases hq : numbX d with
          | none =>
            rw [hq] at HV hD
            have HW : Hid (Calls Tryd.prog 55 #[.string (mk d)] wr fun e w' => e = .returned (.tuple #[.string ⟨#[]⟩, .bool false]) ∧ Below wr.heap.size wr w') := hid HV
            have HN : Hid (refX s.data.toList = none) := hid (by rw [HR.out, hD]; rfl)
            clear HPP hD HR hp HV hq
            go_wp2_with (first
              | (go_at_call 32; (with_reducible refine HQ.out.mono ?_); rintro e w2 ⟨rfl, rfl⟩)
              | (go_at_call 55; (with_reducible refine HW.out.mono ?_); rintro e w2 ⟨rfl, hb2⟩))
            go_ret3
            exact ⟨fun x hx => (by rw [HN.out] at hx; cases hx), fun _ => ⟨rs, HS.out, rfl⟩, hbw.trans (hb2.mono hbw.size)⟩
          | some t =>
            rw [hq] at HV hD
            have HW : Hid (Calls Tryd.prog 55 #[.string (mk d)] wr fun e w' => e = .returned (.tuple #[.string (mk t), .bool true]) ∧ Below wr.heap.size wr w') := hid HV
            have HN : Hid (refX s.data.toList = some (t, rs)) := hid (by rw [HR.out, hD]; rfl)
            clear HPP hD HR hp HV hq
            go_wp2_with (first
              | (go_at_call 32; (with_reducible refine HQ.out.mono ?_); rintro e w2 ⟨rfl, rfl⟩)
              | (go_at_call 55; (with_reducible refine HW.out.mono ?_); rintro e w2 ⟨rfl, hb2⟩))
            go_ret3
            exact ⟨fun x hx => (by rw [HN.out] at hx; cases hx; rfl), fun hx => (by rw [HN.out] at hx; cases hx), hbw.trans (hb2.mono hbw.size)⟩
end Go.Proofs.YtbiiaepmemdlgaaDoor
