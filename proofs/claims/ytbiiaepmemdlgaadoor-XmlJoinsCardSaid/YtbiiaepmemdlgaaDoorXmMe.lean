/-
  LAYER 11 (xml), THE PROGRAM: numbered (written by tools/gen11_num.py).
-/
import Derived.Test.YtbiiaepmemdlgaaDoorXmMd
import Derived.BigQuiet
namespace Go.Proofs.YtbiiaepmemdlgaaDoor
open Go.RowKit
set_option linter.unusedVariables false
set_option maxRecDepth 100000

theorem utf_eq {n : Nat} (h : runeX n = true) : Utf8.encode (n : Int) = mk (utfX n) := by
  unfold runeX at h
  simp at h
  have hv : Utf8.valid (n : Int) = true := by
    unfold Utf8.valid
    simp
    omega
  unfold Utf8.encode utfX
  rw [if_pos hv, Int.toNat_natCast]
  simp only
  split
  · rfl
  · split
    · rfl
    · split
      · rfl
      · rfl
theorem valid_eq (n : Nat) (h0 : n ≠ 0) : Lib.validRune (n : Int) = runeX n := by
  rw [Bool.eq_iff_iff]
  simp [Lib.validRune, runeX]
  omega
def numV (o : Option (List UInt8)) : Value := match o with
  | some t => .tuple #[.string (mk t), .bool true]
  | none => .tuple #[.string ⟨#[]⟩, .bool false]
theorem past_x {s d : List UInt8} (h : past [120] s = some d) : s = 120 :: d := (past_lt h).1
theorem past_not {s : List UInt8} (h : past [120] s = none) : numbX s = charX 10 7 s := by
  cases s with
  | nil => rfl
  | cons c r =>
    by_cases hc : c = 120
    · subst hc; simp [past] at h
    · unfold numbX
      split
      · rename_i h1; exact absurd (List.cons.inj h1).1 hc
      · rfl
theorem conv32 (n : Nat) (hn : n < 16777216) (w : World) : (convert 97 21 (.int .u64 (n : Nat))).run Tryd.prog w = .ok (.int .i32 (n : Nat)) w := by
  have : IntKind.i32.wrap (n : Int) = (n : Int) := by
    rw [IntKind.wrap_i32]; omega
  simp [convert, run_underlying Tryd.underlying97, run_underlying Tryd.underlying21, Conv.intToInt, this]
theorem convS (n : Nat) (h : runeX n = true) (w : World) : (convert 21 9 (.int .i32 (n : Nat))).run Tryd.prog w = .ok (.string (mk (utfX n))) w := by
  simp [convert, run_underlying Tryd.underlying21, run_underlying Tryd.underlying9, Conv.intToString, utf_eq h]

set_option maxHeartbeats 2000000 in
theorem numbtrue_any {B : Nat} {w : World} (hG : Gb B w) (hB : B ≤ w.heap.size) (s : ByteArray) (d : List UInt8) (hl : d.length ≤ 100000)
    (hc : ∀ wx, Calls Tryd.prog 32 #[.string s, .string ⟨#[120]⟩] wx fun e w' => e = .returned (.tuple #[.string (mk d), .bool true]) ∧ wx = w') (hd : (mk d).data.toList = d) :
    Calls Tryd.prog 55 #[.string s] w fun e w' => e = .returned (numV (charX 16 6 d)) ∧ Below w.heap.size w w' := by
  obtain ⟨u, hu⟩ : ∃ u, (mk d) = u := ⟨_, rfl⟩
  have HC := hid hc
  clear hc
  have hsz : d.length = u.size := by rw [← hd, ← hu]; rfl
  have hud : u.data.toList = d := by rw [← hu]; exact hd
  rw [hu] at HC
  by_cases hm : 6 < u.size
  · have HN : Hid (charX 16 6 d = none) := hid (by unfold charX; rw [if_pos (by omega)])
    clear hsz hud hl hd hG
    go_enter Tryd.func55, Tryd.ntmps55
    go_wp2_with (go_at_call 32; (with_reducible refine (HC.out _).mono ?_); rintro e w1 ⟨rfl, rfl⟩)
    go_ret2
    exact ⟨by rw [HN.out]; rfl, Below.refl _ _⟩
  · have HP : Hid (Calls Tryd.prog 70 #[.string u, .int .i64 16, .int .i64 32] w (PubPost w (digsX 16 d))) := hid (by
      have := pub_any hG hB u 16 (by omega)
      rw [hud] at this
      exact this)
    have HD : Hid (charX 16 6 d = (digsX 16 d).bind fun n => if runeX n then some (utfX n) else none) := hid (by unfold charX; rw [if_neg (by omega)])
    have hm' : u.size ≤ 6 := by omega
    have HLT : Hid (∀ n, digsX 16 d = some n → n < 16777216) := hid (fun n hn => by
      unfold digsX at hn
      split at hn
      · cases hn
      · have h1 := digs_lt 16 0 (by decide) d 0 n hn
        have h2 : 16 ^ d.length ≤ 16 ^ 6 := Nat.pow_le_pow_right (by decide) (by omega)
        have h3 : 16 ^ 6 ≤ 16777216 := by decide
        omega)
    clear hsz hud hl hd hG hm
    cases ho : digsX 16 d with
    | none =>
      rw [ho] at HP HD
      have HN : Hid (charX 16 6 d = none) := hid HD.out
      have HQ : Hid (Calls Tryd.prog 70 #[.string u, .int .i64 16, .int .i64 32] w fun e w' => ∃ N, e = .returned (.tuple #[.int .u64 0, .iface 113 (.pointer (some ⟨N, 0, none⟩))]) ∧ Below w.heap.size w w') := hid (HP.out.mono fun e w' ⟨_, h2, h3⟩ => by
        obtain ⟨N, hN⟩ := h2 rfl
        exact ⟨N, hN, h3⟩)
      clear HP HD HLT ho
      go_enter Tryd.func55, Tryd.ntmps55
      go_wp2_with (first
        | (go_at_call 32; (with_reducible refine (HC.out _).mono ?_); rintro e w1 ⟨rfl, rfl⟩)
        | (go_at_call 70; (with_reducible refine HQ.out.mono ?_); rintro e w1 ⟨N, rfl, hb1⟩))
      go_ret2
      exact ⟨by rw [HN.out]; rfl, hb1⟩
    | some n =>
      have hn := HLT.out n ho
      rw [ho] at HP HD
      have HQ : Hid (Calls Tryd.prog 70 #[.string u, .int .i64 16, .int .i64 32] w fun e w' => e = .returned (.tuple #[.int .u64 (n : Nat), .nilIface]) ∧ Below w.heap.size w w') := hid (HP.out.mono fun e w' ⟨h1, _, h3⟩ => ⟨h1 n rfl, h3⟩)
      rw [Option.bind_some] at HD
      have HV : Hid (∀ wx, Calls Tryd.prog 71 #[.int .i32 (n : Nat)] wx fun e w' => e = .returned (.bool (Lib.validRune (n : Int))) ∧ wx = w') := hid (fun wx => (Any.utf8_ValidRune Tryd.xValid (n : Int) wx).mono fun e w' ⟨h1, h2⟩ => ⟨h1, h2.symm⟩)
      have c1 := fun wx => conv32 n hn wx
      clear HP HLT ho hn
      by_cases h0 : n = 0
      · subst h0
        have HN : Hid (charX 16 6 d = none) := hid (HD.out.trans (if_neg (by decide)))
        clear HD HV c1
        go_enter Tryd.func55, Tryd.ntmps55
        go_wp2_with (first
          | (go_at_call 32; (with_reducible refine (HC.out _).mono ?_); rintro e w1 ⟨rfl, rfl⟩)
          | (go_at_call 70; (with_reducible refine HQ.out.mono ?_); rintro e w1 ⟨rfl, hb1⟩))
        go_ret2
        exact ⟨by rw [HN.out]; rfl, hb1⟩
      · rw [valid_eq n h0] at HV
        have h0b : ((n : Int) == 0) = false := by simp; omega
        cases hr : runeX n with
        | false =>
          rw [hr] at HV HD
          have HN : Hid (charX 16 6 d = none) := hid HD.out
          clear HD hr h0
          go_enter Tryd.func55, Tryd.ntmps55
          go_wp2_with (first
            | (go_at_call 32; (with_reducible refine (HC.out _).mono ?_); rintro e w1 ⟨rfl, rfl⟩)
            | (go_at_call 70; (with_reducible refine HQ.out.mono ?_); rintro e w1 ⟨rfl, hb1⟩)
            | (go_at_call 71; (with_reducible refine (HV.out _).mono ?_); rintro e w2 ⟨rfl, rfl⟩))
          go_ret2
          exact ⟨by rw [HN.out]; rfl, hb1⟩
        | true =>
          have c2 := fun wx => convS n hr wx
          rw [hr] at HV HD
          have HN : Hid (charX 16 6 d = some (utfX n)) := hid HD.out
          clear HD hr h0
          go_enter Tryd.func55, Tryd.ntmps55
          go_wp2_with (first
            | (go_at_call 32; (with_reducible refine (HC.out _).mono ?_); rintro e w1 ⟨rfl, rfl⟩)
            | (go_at_call 70; (with_reducible refine HQ.out.mono ?_); rintro e w1 ⟨rfl, hb1⟩)
            | (go_at_call 71; (with_reducible refine (HV.out _).mono ?_); rintro e w2 ⟨rfl, rfl⟩))
          go_ret2
          exact ⟨by rw [HN.out]; rfl, hb1⟩

set_option maxHeartbeats 2000000 in
theorem numbfalse_any {B : Nat} {w : World} (hG : Gb B w) (hB : B ≤ w.heap.size) (s : ByteArray) (d : List UInt8) (hl : d.length ≤ 100000)
    (hc : ∀ wx, Calls Tryd.prog 32 #[.string s, .string ⟨#[120]⟩] wx fun e w' => e = .returned (.tuple #[.string s, .bool false]) ∧ wx = w') (hd : s.data.toList = d) :
    Calls Tryd.prog 55 #[.string s] w fun e w' => e = .returned (numV (charX 10 7 d)) ∧ Below w.heap.size w w' := by
  have HC := hid hc
  clear hc
  have hsz : d.length = s.size := by rw [← hd]; rfl
  have hud : s.data.toList = d := hd
  by_cases hm : 7 < s.size
  · have HN : Hid (charX 10 7 d = none) := hid (by unfold charX; rw [if_pos (by omega)])
    clear hsz hud hl hd hG
    go_enter Tryd.func55, Tryd.ntmps55
    go_wp2_with (go_at_call 32; (with_reducible refine (HC.out _).mono ?_); rintro e w1 ⟨rfl, rfl⟩)
    go_ret2
    exact ⟨by rw [HN.out]; rfl, Below.refl _ _⟩
  · have HP : Hid (Calls Tryd.prog 70 #[.string s, .int .i64 10, .int .i64 32] w (PubPost w (digsX 10 d))) := hid (by
      have := pub_any hG hB s 10 (by omega)
      rw [hud] at this
      exact this)
    have HD : Hid (charX 10 7 d = (digsX 10 d).bind fun n => if runeX n then some (utfX n) else none) := hid (by unfold charX; rw [if_neg (by omega)])
    have hm' : s.size ≤ 7 := by omega
    have HLT : Hid (∀ n, digsX 10 d = some n → n < 16777216) := hid (fun n hn => by
      unfold digsX at hn
      split at hn
      · cases hn
      · have h1 := digs_lt 10 0 (by decide) d 0 n hn
        have h2 : 10 ^ d.length ≤ 10 ^ 7 := Nat.pow_le_pow_right (by decide) (by omega)
        have h3 : 10 ^ 7 ≤ 16777216 := by decide
        omega)
    clear hsz hud hl hd hG hm
    cases ho : digsX 10 d with
    | none =>
      rw [ho] at HP HD
      have HN : Hid (charX 10 7 d = none) := hid HD.out
      have HQ : Hid (Calls Tryd.prog 70 #[.string s, .int .i64 10, .int .i64 32] w fun e w' => ∃ N, e = .returned (.tuple #[.int .u64 0, .iface 113 (.pointer (some ⟨N, 0, none⟩))]) ∧ Below w.heap.size w w') := hid (HP.out.mono fun e w' ⟨_, h2, h3⟩ => by
        obtain ⟨N, hN⟩ := h2 rfl
        exact ⟨N, hN, h3⟩)
      clear HP HD HLT ho
      go_enter Tryd.func55, Tryd.ntmps55
      go_wp2_with (first
        | (go_at_call 32; (with_reducible refine (HC.out _).mono ?_); rintro e w1 ⟨rfl, rfl⟩)
        | (go_at_call 70; (with_reducible refine HQ.out.mono ?_); rintro e w1 ⟨N, rfl, hb1⟩))
      go_ret2
      exact ⟨by rw [HN.out]; rfl, hb1⟩
    | some n =>
      have hn := HLT.out n ho
      rw [ho] at HP HD
      have HQ : Hid (Calls Tryd.prog 70 #[.string s, .int .i64 10, .int .i64 32] w fun e w' => e = .returned (.tuple #[.int .u64 (n : Nat), .nilIface]) ∧ Below w.heap.size w w') := hid (HP.out.mono fun e w' ⟨h1, _, h3⟩ => ⟨h1 n rfl, h3⟩)
      rw [Option.bind_some] at HD
      have HV : Hid (∀ wx, Calls Tryd.prog 71 #[.int .i32 (n : Nat)] wx fun e w' => e = .returned (.bool (Lib.validRune (n : Int))) ∧ wx = w') := hid (fun wx => (Any.utf8_ValidRune Tryd.xValid (n : Int) wx).mono fun e w' ⟨h1, h2⟩ => ⟨h1, h2.symm⟩)
      have c1 := fun wx => conv32 n hn wx
      clear HP HLT ho hn
      by_cases h0 : n = 0
      · subst h0
        have HN : Hid (charX 10 7 d = none) := hid (HD.out.trans (if_neg (by decide)))
        clear HD HV c1
        go_enter Tryd.func55, Tryd.ntmps55
        go_wp2_with (first
          | (go_at_call 32; (with_reducible refine (HC.out _).mono ?_); rintro e w1 ⟨rfl, rfl⟩)
          | (go_at_call 70; (with_reducible refine HQ.out.mono ?_); rintro e w1 ⟨rfl, hb1⟩))
        go_ret2
        exact ⟨by rw [HN.out]; rfl, hb1⟩
      · rw [valid_eq n h0] at HV
        have h0b : ((n : Int) == 0) = false := by simp; omega
        cases hr : runeX n with
        | false =>
          rw [hr] at HV HD
          have HN : Hid (charX 10 7 d = none) := hid HD.out
          clear HD hr h0
          go_enter Tryd.func55, Tryd.ntmps55
          go_wp2_with (first
            | (go_at_call 32; (with_reducible refine (HC.out _).mono ?_); rintro e w1 ⟨rfl, rfl⟩)
            | (go_at_call 70; (with_reducible refine HQ.out.mono ?_); rintro e w1 ⟨rfl, hb1⟩)
            | (go_at_call 71; (with_reducible refine (HV.out _).mono ?_); rintro e w2 ⟨rfl, rfl⟩))
          go_ret2
          exact ⟨by rw [HN.out]; rfl, hb1⟩
        | true =>
          have c2 := fun wx => convS n hr wx
          rw [hr] at HV HD
          have HN : Hid (charX 10 7 d = some (utfX n)) := hid HD.out
          clear HD hr h0
          go_enter Tryd.func55, Tryd.ntmps55
          go_wp2_with (first
            | (go_at_call 32; (with_reducible refine (HC.out _).mono ?_); rintro e w1 ⟨rfl, rfl⟩)
            | (go_at_call 70; (with_reducible refine HQ.out.mono ?_); rintro e w1 ⟨rfl, hb1⟩)
            | (go_at_call 71; (with_reducible refine (HV.out _).mono ?_); rintro e w2 ⟨rfl, rfl⟩))
          go_ret2
          exact ⟨by rw [HN.out]; rfl, hb1⟩

theorem numbered_any {B : Nat} {w : World} (hG : Gb B w) (hB : B ≤ w.heap.size) (s : ByteArray) (hl : s.size ≤ 100000) :
    Calls Tryd.prog 55 #[.string s] w fun e w' => e = .returned (numV (numbX s.data.toList)) ∧ Below w.heap.size w w' := by
  have hc := fun wx => cutPrefix_any s ⟨#[120]⟩ wx
  rw [show (⟨#[120]⟩ : ByteArray).data.toList = [120] from rfl] at hc
  cases hp : past [120] s.data.toList with
  | some d =>
    rw [hp] at hc
    have hs := past_x hp
    have : numbX s.data.toList = charX 16 6 d := by rw [hs]; rfl
    rw [this]
    exact numbtrue_any hG hB s d (by have := (past_lt hp).2; rw [str_len] at this; omega) hc rfl
  | none =>
    rw [hp] at hc
    rw [past_not hp]
    exact numbfalse_any hG hB s s.data.toList (by rw [str_len]; omega) (fun wx => hc wx) rfl
end Go.Proofs.YtbiiaepmemdlgaaDoor
