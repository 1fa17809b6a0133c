import Derived.Test.YtjoeamlidmmioaaGreatDoorXmJaJ
import Derived.BigQuiet
/-
  LAYER 11 (xml), THE PROGRAM: strconv.ParseUint's outer call; numbered; reference.
-/
namespace Go.Proofs.YtjoeamlidmmioaaGreatDoor
open Go.RowKit
set_option linter.unusedVariables false
set_option maxRecDepth 100000

theorem toErr_any {B : Nat} {w : World} (hG : Gb B w) (s : ByteArray) (b : Int) (hs : s.size ≤ 1000) :
    Calls Tryz.prog 111 #[.string ⟨#[80, 97, 114, 115, 101, 85, 105, 110, 116]⟩, .string s, .int .i64 b, .int .i64 32, .iface 153 (.int .i64 2)] w fun e w' => (∃ N, e = .returned (.iface 155 (.pointer (some ⟨N, 0, none⟩)))) ∧ Below w.heap.size w w' := by
  obtain ⟨ev, h1, h2⟩ := hG.syn
  exact (AnyPu.strconv_toError_syntax Tryz.xToErr _ s b 32 ev w (by omega) h1 h2).mono fun e w' ⟨N, he, _, _, hb⟩ => ⟨⟨N, he⟩, hb⟩
theorem digs_lt (b m : Nat) (hb : 0 < b) : ∀ (l : List UInt8) (v u : Nat), l.foldl (digitX b) (some v) = some u → u < (v + 1) * b ^ l.length
  | [], v, u, h => by simp at h; subst h; simp
  | c :: r, v, u, h => by
    rw [List.foldl_cons] at h
    cases hd : digitX b (some v) c with
    | none => rw [hd, digit_none] at h; cases h
    | some x =>
      rw [hd] at h
      have hx : x < b * (v + 1) := by
        simp only [digitX, Option.bind_some] at hd
        obtain ⟨d, _, h2⟩ := Option.bind_eq_some_iff.1 hd
        split at h2
        · rename_i hdb
          cases h2
          rw [Nat.mul_add]; omega
        · cases h2
      have := digs_lt b m hb r x u h
      rw [List.length_cons, Nat.pow_succ]
      have h3 : (x + 1) * b ^ r.length ≤ (b * (v + 1)) * b ^ r.length := Nat.mul_le_mul_right _ hx
      have h4 : b * (v + 1) * b ^ r.length = (v + 1) * (b ^ r.length * b) := by
        rw [Nat.mul_comm b (v + 1), Nat.mul_assoc, Nat.mul_comm b]
      omega
/-- What ParseUint answers: the number, or some error. -/
def PubPost (w : World) (o : Option Nat) (e : Ending) (w' : World) : Prop :=
  (∀ v, o = some v → e = .returned (.tuple #[.int .u64 (v : Nat), .nilIface])) ∧ (o = none → ∃ N, e = .returned (.tuple #[.int .u64 0, .iface 155 (.pointer (some ⟨N, 0, none⟩))])) ∧ Below w.heap.size w w'
theorem pub_any {B : Nat} {w : World} (hG : Gb B w) (hB : B ≤ w.heap.size) (s : ByteArray) (b : Nat) (hb : (b = 10 ∧ s.size ≤ 7) ∨ (b = 16 ∧ s.size ≤ 6)) :
    Calls Tryz.prog 103 #[.string s, .int .i64 (b : Nat), .int .i64 32] w (PubPost w (digsX b s.data.toList)) := by
  have HP : Hid (Calls Tryz.prog 110 #[.string s, .int .i64 (b : Nat), .int .i64 32] w (PuPost w (digsX b s.data.toList))) := hid (by
    rcases hb with ⟨rfl, h⟩ | ⟨rfl, h⟩
    · exact pu10_any s w h
    · exact pu16_any s w h)
  have HE := hid (fun w1 (h : Below w.heap.size w w1) => toErr_any (hG.below (h.mono hB)) s b (by omega))
  clear hb hG
  cases ho : digsX b s.data.toList with
  | some v =>
    rw [ho] at HP
    have HP2 : Hid (Calls Tryz.prog 110 #[.string s, .int .i64 (b : Nat), .int .i64 32] w fun e w' => e = .returned (.tuple #[.int .u64 (v : Nat), .nilIface]) ∧ Below w.heap.size w w') := hid HP.out
    clear ho HP
    go_enter Tryz.func103, Tryz.ntmps103
    go_wp2_with (go_at_call 110; (with_reducible refine HP2.out.mono ?_); rintro e w1 ⟨rfl, hb1⟩)
    go_ret2
    exact ⟨fun u hu => by cases hu; rfl, fun h => by (cases h), hb1⟩
  | none =>
    rw [ho] at HP
    have HP2 : Hid (Calls Tryz.prog 110 #[.string s, .int .i64 (b : Nat), .int .i64 32] w fun e w' => e = .returned (.tuple #[.int .u64 0, .iface 153 (.int .i64 2)]) ∧ Below w.heap.size w w') := hid HP.out
    clear ho HP
    go_enter Tryz.func103, Tryz.ntmps103
    go_wp2_with (first
      | (go_at_call 110; (with_reducible refine HP2.out.mono ?_); rintro e w1 ⟨rfl, hb1⟩)
      | (go_at_call 111; (with_reducible refine (HE.out _ hb1).mono ?_); rintro e w2 ⟨⟨N, rfl⟩, hb2⟩))
    go_ret2
    exact ⟨fun u hu => by (cases hu), fun _ => ⟨N, rfl⟩, hb1.trans (hb2.mono hb1.size)⟩
end Go.Proofs.YtjoeamlidmmioaaGreatDoor
/-
  LAYER 11 (xml), THE PROGRAM: numbered (written by tools/gen11_num.py).
-/
namespace Go.Proofs.YtjoeamlidmmioaaGreatDoor
open Go.RowKit
set_option linter.unusedVariables false
set_option maxRecDepth 100000

theorem utf_eq {n : Nat} (h : runeX n = true) : Utf8.encode (n : Int) = mk (utfX n) := by
  unfold runeX at h
  simp at h
  have hv : Utf8.valid (n : Int) = true := by
    unfold Utf8.valid
    simp
    omega
  unfold Utf8.encode utfX
  rw [if_pos hv, Int.toNat_natCast]
  simp only
  split
  · rfl
  · split
    · rfl
    · split
      · rfl
      · rfl
theorem valid_eq (n : Nat) (h0 : n ≠ 0) : Lib.validRune (n : Int) = runeX n := by
  rw [Bool.eq_iff_iff]
  simp [Lib.validRune, runeX]
  omega
def numV (o : Option (List UInt8)) : Value := match o with
  | some t => .tuple #[.string (mk t), .bool true]
  | none => .tuple #[.string ⟨#[]⟩, .bool false]
theorem past_x {s d : List UInt8} (h : past [120] s = some d) : s = 120 :: d := (past_lt h).1
theorem past_not {s : List UInt8} (h : past [120] s = none) : numbX s = charX 10 7 s := by
  cases s with
  | nil => rfl
  | cons c r =>
    by_cases hc : c = 120
    · subst hc; simp [past] at h
    · unfold numbX
      split
      · rename_i h1; exact absurd (List.cons.inj h1).1 hc
      · rfl
theorem conv32 (n : Nat) (hn : n < 16777216) (w : World) : (convert 141 21 (.int .u64 (n : Nat))).run Tryz.prog w = .ok (.int .i32 (n : Nat)) w := by
  have : IntKind.i32.wrap (n : Int) = (n : Int) := by
    rw [IntKind.wrap_i32]; omega
  simp [convert, run_underlying Tryz.underlying141, run_underlying Tryz.underlying21, Conv.intToInt, this]
theorem convS (n : Nat) (h : runeX n = true) (w : World) : (convert 21 9 (.int .i32 (n : Nat))).run Tryz.prog w = .ok (.string (mk (utfX n))) w := by
  simp [convert, run_underlying Tryz.underlying21, run_underlying Tryz.underlying9, Conv.intToString, utf_eq h]

set_option maxHeartbeats 2000000 in
theorem numbtrue_any {B : Nat} {w : World} (hG : Gb B w) (hB : B ≤ w.heap.size) (s : ByteArray) (d : List UInt8) (hl : d.length ≤ 100000)
    (hc : ∀ wx, Calls Tryz.prog 43 #[.string s, .string ⟨#[120]⟩] wx fun e w' => e = .returned (.tuple #[.string (mk d), .bool true]) ∧ wx = w') (hd : (mk d).data.toList = d) :
    Calls Tryz.prog 83 #[.string s] w fun e w' => e = .returned (numV (charX 16 6 d)) ∧ Below w.heap.size w w' := by
  obtain ⟨u, hu⟩ : ∃ u, (mk d) = u := ⟨_, rfl⟩
  have HC := hid hc
  clear hc
  have hsz : d.length = u.size := by rw [← hd, ← hu]; rfl
  have hud : u.data.toList = d := by rw [← hu]; exact hd
  rw [hu] at HC
  by_cases hm : 6 < u.size
  · have HN : Hid (charX 16 6 d = none) := hid (by unfold charX; rw [if_pos (by omega)])
    clear hsz hud hl hd hG
    go_enter Tryz.func83, Tryz.ntmps83
    go_wp2_with (go_at_call 43; (with_reducible refine (HC.out _).mono ?_); rintro e w1 ⟨rfl, rfl⟩)
    go_ret2
    exact ⟨by rw [HN.out]; rfl, Below.refl _ _⟩
  · have HP : Hid (Calls Tryz.prog 103 #[.string u, .int .i64 16, .int .i64 32] w (PubPost w (digsX 16 d))) := hid (by
      have := pub_any hG hB u 16 (by omega)
      rw [hud] at this
      exact this)
    have HD : Hid (charX 16 6 d = (digsX 16 d).bind fun n => if runeX n then some (utfX n) else none) := hid (by unfold charX; rw [if_neg (by omega)])
    have hm' : u.size ≤ 6 := by omega
    have HLT : Hid (∀ n, digsX 16 d = some n → n < 16777216) := hid (fun n hn => by
      unfold digsX at hn
      split at hn
      · cases hn
      · have h1 := digs_lt 16 0 (by decide) d 0 n hn
        have h2 : 16 ^ d.length ≤ 16 ^ 6 := Nat.pow_le_pow_right (by decide) (by omega)
        have h3 : 16 ^ 6 ≤ 16777216 := by decide
        omega)
    clear hsz hud hl hd hG hm
    cases ho : digsX 16 d with
    | none =>
      rw [ho] at HP HD
      have HN : Hid (charX 16 6 d = none) := hid HD.out
      have HQ : Hid (Calls Tryz.prog 103 #[.string u, .int .i64 16, .int .i64 32] w fun e w' => ∃ N, e = .returned (.tuple #[.int .u64 0, .iface 155 (.pointer (some ⟨N, 0, none⟩))]) ∧ Below w.heap.size w w') := hid (HP.out.mono fun e w' ⟨_, h2, h3⟩ => by
        obtain ⟨N, hN⟩ := h2 rfl
        exact ⟨N, hN, h3⟩)
      clear HP HD HLT ho
      go_enter Tryz.func83, Tryz.ntmps83
      go_wp2_with (first
        | (go_at_call 43; (with_reducible refine (HC.out _).mono ?_); rintro e w1 ⟨rfl, rfl⟩)
        | (go_at_call 103; (with_reducible refine HQ.out.mono ?_); rintro e w1 ⟨N, rfl, hb1⟩))
      go_ret2
      exact ⟨by rw [HN.out]; rfl, hb1⟩
    | some n =>
      have hn := HLT.out n ho
      rw [ho] at HP HD
      have HQ : Hid (Calls Tryz.prog 103 #[.string u, .int .i64 16, .int .i64 32] w fun e w' => e = .returned (.tuple #[.int .u64 (n : Nat), .nilIface]) ∧ Below w.heap.size w w') := hid (HP.out.mono fun e w' ⟨h1, _, h3⟩ => ⟨h1 n rfl, h3⟩)
      rw [Option.bind_some] at HD
      have HV : Hid (∀ wx, Calls Tryz.prog 62 #[.int .i32 (n : Nat)] wx fun e w' => e = .returned (.bool (Lib.validRune (n : Int))) ∧ wx = w') := hid (fun wx => (Any.utf8_ValidRune Tryz.xValid (n : Int) wx).mono fun e w' ⟨h1, h2⟩ => ⟨h1, h2.symm⟩)
      have c1 := fun wx => conv32 n hn wx
      clear HP HLT ho hn
      by_cases h0 : n = 0
      · subst h0
        have HN : Hid (charX 16 6 d = none) := hid (HD.out.trans (if_neg (by decide)))
        clear HD HV c1
        go_enter Tryz.func83, Tryz.ntmps83
        go_wp2_with (first
          | (go_at_call 43; (with_reducible refine (HC.out _).mono ?_); rintro e w1 ⟨rfl, rfl⟩)
          | (go_at_call 103; (with_reducible refine HQ.out.mono ?_); rintro e w1 ⟨rfl, hb1⟩))
        go_ret2
        exact ⟨by rw [HN.out]; rfl, hb1⟩
      · rw [valid_eq n h0] at HV
        have h0b : ((n : Int) == 0) = false := by simp; omega
        cases hr : runeX n with
        | false =>
          rw [hr] at HV HD
          have HN : Hid (charX 16 6 d = none) := hid HD.out
          clear HD hr h0
          go_enter Tryz.func83, Tryz.ntmps83
          go_wp2_with (first
            | (go_at_call 43; (with_reducible refine (HC.out _).mono ?_); rintro e w1 ⟨rfl, rfl⟩)
            | (go_at_call 103; (with_reducible refine HQ.out.mono ?_); rintro e w1 ⟨rfl, hb1⟩)
            | (go_at_call 62; (with_reducible refine (HV.out _).mono ?_); rintro e w2 ⟨rfl, rfl⟩))
          go_ret2
          exact ⟨by rw [HN.out]; rfl, hb1⟩
        | true =>
          have c2 := fun wx => convS n hr wx
          rw [hr] at HV HD
          have HN : Hid (charX 16 6 d = some (utfX n)) := hid HD.out
          clear HD hr h0
          go_enter Tryz.func83, Tryz.ntmps83
          go_wp2_with (first
            | (go_at_call 43; (with_reducible refine (HC.out _).mono ?_); rintro e w1 ⟨rfl, rfl⟩)
            | (go_at_call 103; (with_reducible refine HQ.out.mono ?_); rintro e w1 ⟨rfl, hb1⟩)
            | (go_at_call 62; (with_reducible refine (HV.out _).mono ?_); rintro e w2 ⟨rfl, rfl⟩))
          go_ret2
          exact ⟨by rw [HN.out]; rfl, hb1⟩

set_option maxHeartbeats 2000000 in
theorem numbfalse_any {B : Nat} {w : World} (hG : Gb B w) (hB : B ≤ w.heap.size) (s : ByteArray) (d : List UInt8) (hl : d.length ≤ 100000)
    (hc : ∀ wx, Calls Tryz.prog 43 #[.string s, .string ⟨#[120]⟩] wx fun e w' => e = .returned (.tuple #[.string s, .bool false]) ∧ wx = w') (hd : s.data.toList = d) :
    Calls Tryz.prog 83 #[.string s] w fun e w' => e = .returned (numV (charX 10 7 d)) ∧ Below w.heap.size w w' := by
  have HC := hid hc
  clear hc
  have hsz : d.length = s.size := by rw [← hd]; rfl
  have hud : s.data.toList = d := hd
  by_cases hm : 7 < s.size
  · have HN : Hid (charX 10 7 d = none) := hid (by unfold charX; rw [if_pos (by omega)])
    clear hsz hud hl hd hG
    go_enter Tryz.func83, Tryz.ntmps83
    go_wp2_with (go_at_call 43; (with_reducible refine (HC.out _).mono ?_); rintro e w1 ⟨rfl, rfl⟩)
    go_ret2
    exact ⟨by rw [HN.out]; rfl, Below.refl _ _⟩
  · have HP : Hid (Calls Tryz.prog 103 #[.string s, .int .i64 10, .int .i64 32] w (PubPost w (digsX 10 d))) := hid (by
      have := pub_any hG hB s 10 (by omega)
      rw [hud] at this
      exact this)
    have HD : Hid (charX 10 7 d = (digsX 10 d).bind fun n => if runeX n then some (utfX n) else none) := hid (by unfold charX; rw [if_neg (by omega)])
    have hm' : s.size ≤ 7 := by omega
    have HLT : Hid (∀ n, digsX 10 d = some n → n < 16777216) := hid (fun n hn => by
      unfold digsX at hn
      split at hn
      · cases hn
      · have h1 := digs_lt 10 0 (by decide) d 0 n hn
        have h2 : 10 ^ d.length ≤ 10 ^ 7 := Nat.pow_le_pow_right (by decide) (by omega)
        have h3 : 10 ^ 7 ≤ 16777216 := by decide
        omega)
    clear hsz hud hl hd hG hm
    cases ho : digsX 10 d with
    | none =>
      rw [ho] at HP HD
      have HN : Hid (charX 10 7 d = none) := hid HD.out
      have HQ : Hid (Calls Tryz.prog 103 #[.string s, .int .i64 10, .int .i64 32] w fun e w' => ∃ N, e = .returned (.tuple #[.int .u64 0, .iface 155 (.pointer (some ⟨N, 0, none⟩))]) ∧ Below w.heap.size w w') := hid (HP.out.mono fun e w' ⟨_, h2, h3⟩ => by
        obtain ⟨N, hN⟩ := h2 rfl
        exact ⟨N, hN, h3⟩)
      clear HP HD HLT ho
      go_enter Tryz.func83, Tryz.ntmps83
      go_wp2_with (first
        | (go_at_call 43; (with_reducible refine (HC.out _).mono ?_); rintro e w1 ⟨rfl, rfl⟩)
        | (go_at_call 103; (with_reducible refine HQ.out.mono ?_); rintro e w1 ⟨N, rfl, hb1⟩))
      go_ret2
      exact ⟨by rw [HN.out]; rfl, hb1⟩
    | some n =>
      have hn := HLT.out n ho
      rw [ho] at HP HD
      have HQ : Hid (Calls Tryz.prog 103 #[.string s, .int .i64 10, .int .i64 32] w fun e w' => e = .returned (.tuple #[.int .u64 (n : Nat), .nilIface]) ∧ Below w.heap.size w w') := hid (HP.out.mono fun e w' ⟨h1, _, h3⟩ => ⟨h1 n rfl, h3⟩)
      rw [Option.bind_some] at HD
      have HV : Hid (∀ wx, Calls Tryz.prog 62 #[.int .i32 (n : Nat)] wx fun e w' => e = .returned (.bool (Lib.validRune (n : Int))) ∧ wx = w') := hid (fun wx => (Any.utf8_ValidRune Tryz.xValid (n : Int) wx).mono fun e w' ⟨h1, h2⟩ => ⟨h1, h2.symm⟩)
      have c1 := fun wx => conv32 n hn wx
      clear HP HLT ho hn
      by_cases h0 : n = 0
      · subst h0
        have HN : Hid (charX 10 7 d = none) := hid (HD.out.trans (if_neg (by decide)))
        clear HD HV c1
        go_enter Tryz.func83, Tryz.ntmps83
        go_wp2_with (first
          | (go_at_call 43; (with_reducible refine (HC.out _).mono ?_); rintro e w1 ⟨rfl, rfl⟩)
          | (go_at_call 103; (with_reducible refine HQ.out.mono ?_); rintro e w1 ⟨rfl, hb1⟩))
        go_ret2
        exact ⟨by rw [HN.out]; rfl, hb1⟩
      · rw [valid_eq n h0] at HV
        have h0b : ((n : Int) == 0) = false := by simp; omega
        cases hr : runeX n with
        | false =>
          rw [hr] at HV HD
          have HN : Hid (charX 10 7 d = none) := hid HD.out
          clear HD hr h0
          go_enter Tryz.func83, Tryz.ntmps83
          go_wp2_with (first
            | (go_at_call 43; (with_reducible refine (HC.out _).mono ?_); rintro e w1 ⟨rfl, rfl⟩)
            | (go_at_call 103; (with_reducible refine HQ.out.mono ?_); rintro e w1 ⟨rfl, hb1⟩)
            | (go_at_call 62; (with_reducible refine (HV.out _).mono ?_); rintro e w2 ⟨rfl, rfl⟩))
          go_ret2
          exact ⟨by rw [HN.out]; rfl, hb1⟩
        | true =>
          have c2 := fun wx => convS n hr wx
          rw [hr] at HV HD
          have HN : Hid (charX 10 7 d = some (utfX n)) := hid HD.out
          clear HD hr h0
          go_enter Tryz.func83, Tryz.ntmps83
          go_wp2_with (first
            | (go_at_call 43; (with_reducible refine (HC.out _).mono ?_); rintro e w1 ⟨rfl, rfl⟩)
            | (go_at_call 103; (with_reducible refine HQ.out.mono ?_); rintro e w1 ⟨rfl, hb1⟩)
            | (go_at_call 62; (with_reducible refine (HV.out _).mono ?_); rintro e w2 ⟨rfl, rfl⟩))
          go_ret2
          exact ⟨by rw [HN.out]; rfl, hb1⟩

theorem numbered_any {B : Nat} {w : World} (hG : Gb B w) (hB : B ≤ w.heap.size) (s : ByteArray) (hl : s.size ≤ 100000) :
    Calls Tryz.prog 83 #[.string s] w fun e w' => e = .returned (numV (numbX s.data.toList)) ∧ Below w.heap.size w w' := by
  have hc := fun wx => cutPrefix_any s ⟨#[120]⟩ wx
  rw [show (⟨#[120]⟩ : ByteArray).data.toList = [120] from rfl] at hc
  cases hp : past [120] s.data.toList with
  | some d =>
    rw [hp] at hc
    have hs := past_x hp
    have : numbX s.data.toList = charX 16 6 d := by rw [hs]; rfl
    rw [this]
    exact numbtrue_any hG hB s d (by have := (past_lt hp).2; rw [str_len] at this; omega) hc rfl
  | none =>
    rw [hp] at hc
    rw [past_not hp]
    exact numbfalse_any hG hB s s.data.toList (by rw [str_len]; omega) (fun wx => hc wx) rfl
end Go.Proofs.YtjoeamlidmmioaaGreatDoor
/-
  LAYER 11 (xml), THE PROGRAM: reference (written by tools/gen11_ref.py).
-/
namespace Go.Proofs.YtjoeamlidmmioaaGreatDoor
open Go.RowKit
set_option linter.unusedVariables false
set_option maxRecDepth 100000

def refV (o : Option (List UInt8 × List UInt8)) : Value := match o with
  | some x => .tuple #[.string (mk x.1), .string (mk x.2), .bool true]
  | none => .tuple #[.string ⟨#[]⟩, .string ⟨#[]⟩, .bool false]
/-- Where there is no reference the rest may be any. -/
def RefPost (w : World) (o : Option (List UInt8 × List UInt8)) (e : Ending) (w' : World) : Prop :=
  (∀ x, o = some x → e = .returned (.tuple #[.string (mk x.1), .string (mk x.2), .bool true])) ∧ (o = none → ∃ r : List UInt8, r.length ≤ 100000 ∧ e = .returned (.tuple #[.string ⟨#[]⟩, .string (mk r), .bool false])) ∧ Below w.heap.size w w'
theorem str_eqb (s t : ByteArray) : (s.toList == t.toList) = decide (s = t) := by
  rw [Bool.eq_iff_iff]
  simp only [beq_iff_eq, decide_eq_true_eq, Lib.toList_data]
  exact ⟨fun h => str_ext h, fun h => by rw [h]⟩
theorem mk_inj {l m : List UInt8} (h : mk l = mk m) : l = m := by
  have := congrArg (fun s : ByteArray => s.data.toList) h
  exact this
theorem eqb_yes {l : List UInt8} {s : ByteArray} (h : s = mk l) : (s.toList == (mk l).toList) = true := by rw [str_eqb]; simp [h]
theorem eqb_no {l m : List UInt8} (h : m ≠ l) : ((mk l).toList == (mk m).toList) = false := by
  rw [str_eqb]; simp; exact fun e => h (mk_inj e).symm
/-- The k-th name, and its character. -/
def nmK (k : Nat) : List UInt8 := if k = 0 then [97, 109, 112] else if k = 1 then [108, 116] else if k = 2 then [103, 116] else if k = 3 then [113, 117, 111, 116] else [97, 112, 111, 115]
def chK (k : Nat) : UInt8 := if k = 0 then 38 else if k = 1 then 60 else if k = 2 then 62 else if k = 3 then 34 else 39
/-- None of the names ahead of the k-th. -/
def notNm (k : Nat) (nm : List UInt8) : Prop := ∀ j, j < k → nm ≠ nmK j
theorem notNm_next {k : Nat} {nm : List UInt8} (h : notNm k nm) (e : nm ≠ nmK k) : notNm (k + 1) nm := fun j hj => by
  rcases Nat.lt_or_ge j k with h1 | h1
  · exact h j h1
  · obtain rfl : j = k := by omega
    exact e
theorem den_is {k : Nat} (hk : k < 5) : denX (nmK k) = some [chK k] := by
  match k, hk with
  | 0, _ | 1, _ | 2, _ | 3, _ | 4, _ => rfl
  | n + 5, h => omega
theorem den_hash {nm : List UInt8} (h : notNm 5 nm) : denX nm = match past [35] nm with
    | some d => numbX d
    | none => none := by
  have h1 := h 0 (by decide)
  have h2 := h 1 (by decide)
  have h3 := h 2 (by decide)
  have h4 := h 3 (by decide)
  have h5 := h 4 (by decide)
  simp only [nmK] at h1 h2 h3 h4 h5
  unfold denX
  rw [if_neg (by simpa using h1), if_neg (by simpa using h2), if_neg (by simpa using h3), if_neg (by simpa using h4), if_neg (by simpa using h5)]
  cases nm with
  | nil => rfl
  | cons c r =>
    by_cases hc : c = 35
    · subst hc; rfl
    · have : past [35] (c :: r) = none := by simp [past, List.isPrefixOf, Ne.symm hc]
      rw [this]
      split
      · rename_i e; exact absurd (List.cons.inj e).1 hc
      · rfl
theorem ix0 (wx : World) : (Instr.index 128 (.agg #[.string ⟨#[38]⟩, .string ⟨#[97, 109, 112]⟩, .string ⟨#[60]⟩, .string ⟨#[108, 116]⟩, .string ⟨#[62]⟩, .string ⟨#[103, 116]⟩, .string ⟨#[34]⟩, .string ⟨#[113, 117, 111, 116]⟩, .string ⟨#[39]⟩, .string ⟨#[97, 112, 111, 115]⟩]) (.int .i64 0)).run Tryz.prog wx = .ok (.agg #[.string ⟨#[38]⟩, .string ⟨#[97, 109, 112]⟩]) wx := by kernel_rfl
theorem ix1 (wx : World) : (Instr.index 128 (.agg #[.string ⟨#[38]⟩, .string ⟨#[97, 109, 112]⟩, .string ⟨#[60]⟩, .string ⟨#[108, 116]⟩, .string ⟨#[62]⟩, .string ⟨#[103, 116]⟩, .string ⟨#[34]⟩, .string ⟨#[113, 117, 111, 116]⟩, .string ⟨#[39]⟩, .string ⟨#[97, 112, 111, 115]⟩]) (.int .i64 1)).run Tryz.prog wx = .ok (.agg #[.string ⟨#[60]⟩, .string ⟨#[108, 116]⟩]) wx := by kernel_rfl
theorem ix2 (wx : World) : (Instr.index 128 (.agg #[.string ⟨#[38]⟩, .string ⟨#[97, 109, 112]⟩, .string ⟨#[60]⟩, .string ⟨#[108, 116]⟩, .string ⟨#[62]⟩, .string ⟨#[103, 116]⟩, .string ⟨#[34]⟩, .string ⟨#[113, 117, 111, 116]⟩, .string ⟨#[39]⟩, .string ⟨#[97, 112, 111, 115]⟩]) (.int .i64 2)).run Tryz.prog wx = .ok (.agg #[.string ⟨#[62]⟩, .string ⟨#[103, 116]⟩]) wx := by kernel_rfl
theorem ix3 (wx : World) : (Instr.index 128 (.agg #[.string ⟨#[38]⟩, .string ⟨#[97, 109, 112]⟩, .string ⟨#[60]⟩, .string ⟨#[108, 116]⟩, .string ⟨#[62]⟩, .string ⟨#[103, 116]⟩, .string ⟨#[34]⟩, .string ⟨#[113, 117, 111, 116]⟩, .string ⟨#[39]⟩, .string ⟨#[97, 112, 111, 115]⟩]) (.int .i64 3)).run Tryz.prog wx = .ok (.agg #[.string ⟨#[34]⟩, .string ⟨#[113, 117, 111, 116]⟩]) wx := by kernel_rfl
theorem ix4 (wx : World) : (Instr.index 128 (.agg #[.string ⟨#[38]⟩, .string ⟨#[97, 109, 112]⟩, .string ⟨#[60]⟩, .string ⟨#[108, 116]⟩, .string ⟨#[62]⟩, .string ⟨#[103, 116]⟩, .string ⟨#[34]⟩, .string ⟨#[113, 117, 111, 116]⟩, .string ⟨#[39]⟩, .string ⟨#[97, 112, 111, 115]⟩]) (.int .i64 4)).run Tryz.prog wx = .ok (.agg #[.string ⟨#[39]⟩, .string ⟨#[97, 112, 111, 115]⟩]) wx := by kernel_rfl
theorem ixK (k : Nat) (hk : k < 5) (wx : World) : (Instr.index 128 (.agg #[.string ⟨#[38]⟩, .string ⟨#[97, 109, 112]⟩, .string ⟨#[60]⟩, .string ⟨#[108, 116]⟩, .string ⟨#[62]⟩, .string ⟨#[103, 116]⟩, .string ⟨#[34]⟩, .string ⟨#[113, 117, 111, 116]⟩, .string ⟨#[39]⟩, .string ⟨#[97, 112, 111, 115]⟩]) (.int .i64 (k : Nat))).run Tryz.prog wx = .ok (.agg #[.string (mk [chK k]), .string (mk (nmK k))]) wx := by
  match k, hk with
  | 0, _ => exact ix0 wx
  | 1, _ => exact ix1 wx
  | 2, _ => exact ix2 wx
  | 3, _ => exact ix3 wx
  | 4, _ => exact ix4 wx
  | n + 5, h => omega
set_option maxHeartbeats 4000000 in
theorem reference_any {B : Nat} {w : World} (hG : Gb B w) (hB : B ≤ w.heap.size) (s : ByteArray) (hl : s.size ≤ 100000) :
    Calls Tryz.prog 51 #[.string s] w (RefPost w (refX s.data.toList)) := by
  have hcut := cut_any hG s ⟨#[59]⟩ (by decide) (by omega)
  rw [show (⟨#[59]⟩ : ByteArray).data.toList = [59] from rfl, cutV] at hcut
  cases hu : upTo [59] s.data.toList with
  | none =>
    rw [hu] at hcut
    have HC : Hid (Calls Tryz.prog 44 #[.string s, .string ⟨#[59]⟩] w fun x w' => x = .returned (.tuple #[.string (mk s.data.toList), .string (mk []), .bool false]) ∧ Below w.heap.size w w') := hid hcut
    have HN : Hid (refX s.data.toList = none) := hid (by unfold refX; rw [hu]; rfl)
    clear hcut hu hG
    go_enter Tryz.func51, Tryz.ntmps51
    go_wp2_with (go_at_call 44; (with_reducible refine HC.out.mono ?_); rintro e w1 ⟨rfl, hb1⟩)
    go_ret3
    exact ⟨fun x hx => (by rw [HN.out] at hx; cases hx), fun _ => ⟨[], by simp, rfl⟩, hb1⟩
  | some ab =>
    obtain ⟨nm, rs⟩ := ab
    rw [hu] at hcut
    have hlt := (upTo_lt hu).1
    rw [str_len] at hlt
    have HC : Hid (Calls Tryz.prog 44 #[.string s, .string ⟨#[59]⟩] w fun x w' => x = .returned (.tuple #[.string (mk nm), .string (mk rs), .bool true]) ∧ Below w.heap.size w w') := hid hcut
    have HR : Hid (refX s.data.toList = (denX nm).map fun t => (t, rs)) := hid (by unfold refX; rw [hu]; rfl)
    have HS : Hid (rs.length ≤ 100000) := hid (by omega)
    have hnl : nm.length ≤ 100000 := by omega
    have HH := hid (fun (w1 : World) (h : Below w.heap.size w w1) => hG.below (h.mono hB))
    have HP := hid (fun (wx : World) => cutPrefix_any (mk nm) ⟨#[35]⟩ wx)
    have HM := hid (fun (wx : World) (d : List UInt8) (h : Gb B wx) (h2 : B ≤ wx.heap.size) (h3 : d.length ≤ 100000) => numbered_any h h2 (mk d) (by rw [mk_size]; exact h3))
    clear hcut hu hlt hl
    go_enter Tryz.func51, Tryz.ntmps51
    go_wp2_with (go_at_call 44; (with_reducible refine HC.out.mono ?_))
    first | rintro e w1 rfl hb1 | rintro e w1 ⟨rfl, hb1⟩
    obtain ⟨n0, n1, n2, n3, n4, n5, n6, n7, n8, n9⟩ := (HH.out w1 hb1).names
    have hG1 := hid (HH.out w1 hb1)
    clear HH
    go_wp2
    clear n0 n1 n2 n3 n4 n5 n6 n7 n8 n9
    go_loopw [21] (fun i wr => ∃ k : Nat, k ≤ 5 ∧ i = .int .i64 k ∧ Hid (notNm k nm) ∧ Below w1.heap.size w1 wr) (fun i _ => 5 - (intOf i).toNat)
    case atStart => exact ⟨0, by omega, rfl, hid (fun j hj => absurd hj (by omega)), Below.refl _ _⟩
    case round =>
      obtain ⟨k, hk, rfl, hnn, hbr⟩ := hrel
      have hbw : Below w.heap.size w wr := hb1.trans (hbr.mono hb1.size)
      by_cases hk5 : k < 5
      · have x1 := fun wx => ixK k hk5 wx
        by_cases e : nm = nmK k
        · have HN : Hid (refX s.data.toList = some ([chK k], rs)) := hid (by rw [HR.out, e, den_is hk5]; rfl)
          have q1 : ((mk (nmK k)).toList == (mk nm).toList) = true := by rw [e]; simp
          clear e HR HP HM
          generalize mk (nmK k) = M at *
          generalize mk nm = N at *
          go_wp2
          go_ret3
          exact ⟨fun x hx => (by rw [HN.out] at hx; cases hx; rfl), fun hx => (by rw [HN.out] at hx; cases hx), hbw.trans (by first | (with_reducible assumption) | exact (Below.alloc (Below.refl _ _) hbw.size _))⟩
        · have hn2 := hid (notNm_next hnn.out e)
          have q1 : ((mk (nmK k)).toList == (mk nm).toList) = false := eqb_no e
          clear e HR hnn HP HM
          generalize mk (nmK k) = M at *
          generalize mk nm = N at *
          go_wp2
          go_roundw
          case rel => exact ⟨k + 1, by omega, by go_num, hn2, hbr.trans (by first | (with_reducible assumption) | exact (Below.alloc (Below.refl _ _) hbr.size _))⟩
          case measure => simp [intOf]; omega
      · obtain rfl : k = 5 := by omega
        clear hk5
        have hD := den_hash hnn.out
        have hG2 := hG1.out.below (hbr.mono (Nat.le_trans hB hb1.size))
        have hBz : B ≤ wr.heap.size := Nat.le_trans hB hbw.size
        have HPP := HP.out wr
        rw [mk_data] at HPP
        cases hp : past [35] nm with
        | none =>
          rw [hp] at HPP hD
          have HQ : Hid (Calls Tryz.prog 43 #[.string (mk nm), .string ⟨#[35]⟩] wr fun e w' => e = .returned (.tuple #[.string (mk nm), .bool false]) ∧ wr = w') := hid HPP
          have HN : Hid (refX s.data.toList = none) := hid (by rw [HR.out, hD]; rfl)
          clear HPP hD HR hp
          go_wp2_with (go_at_call 43; (with_reducible refine HQ.out.mono ?_); rintro e w2 ⟨rfl, rfl⟩)
          go_ret3
          exact ⟨fun x hx => (by rw [HN.out] at hx; cases hx), fun _ => ⟨[], by simp, rfl⟩, hbw⟩
        | some d =>
          rw [hp] at HPP hD
          simp only at hD
          have HQ : Hid (Calls Tryz.prog 43 #[.string (mk nm), .string ⟨#[35]⟩] wr fun e w' => e = .returned (.tuple #[.string (mk d), .bool true]) ∧ wr = w') := hid HPP
          have HV := HM.out wr d hG2 hBz (by have := (past_lt hp).2; omega)
          rw [mk_data] at HV
          cases hq : numbX d with
          | none =>
            rw [hq] at HV hD
            have HW : Hid (Calls Tryz.prog 83 #[.string (mk d)] wr fun e w' => e = .returned (.tuple #[.string ⟨#[]⟩, .bool false]) ∧ Below wr.heap.size wr w') := hid HV
            have HN : Hid (refX s.data.toList = none) := hid (by rw [HR.out, hD]; rfl)
            clear HPP hD HR hp HV hq
            go_wp2_with (first
              | (go_at_call 43; (with_reducible refine HQ.out.mono ?_); rintro e w2 ⟨rfl, rfl⟩)
              | (go_at_call 83; (with_reducible refine HW.out.mono ?_); rintro e w2 ⟨rfl, hb2⟩))
            go_ret3
            exact ⟨fun x hx => (by rw [HN.out] at hx; cases hx), fun _ => ⟨rs, HS.out, rfl⟩, hbw.trans (hb2.mono hbw.size)⟩
          | some t =>
            rw [hq] at HV hD
            have HW : Hid (Calls Tryz.prog 83 #[.string (mk d)] wr fun e w' => e = .returned (.tuple #[.string (mk t), .bool true]) ∧ Below wr.heap.size wr w') := hid HV
            have HN : Hid (refX s.data.toList = some (t, rs)) := hid (by rw [HR.out, hD]; rfl)
            clear HPP hD HR hp HV hq
            go_wp2_with (first
              | (go_at_call 43; (with_reducible refine HQ.out.mono ?_); rintro e w2 ⟨rfl, rfl⟩)
              | (go_at_call 83; (with_reducible refine HW.out.mono ?_); rintro e w2 ⟨rfl, hb2⟩))
            go_ret3
            exact ⟨fun x hx => (by rw [HN.out] at hx; cases hx; rfl), fun hx => (by rw [HN.out] at hx; cases hx), hbw.trans (hb2.mono hbw.size)⟩
end Go.Proofs.YtjoeamlidmmioaaGreatDoor
/-
  LAYER 11 (xml), THE PROGRAM: denoted.
-/
namespace Go.Proofs.YtjoeamlidmmioaaGreatDoor
open Go.RowKit
set_option linter.unusedVariables false
set_option maxRecDepth 100000

theorem blkOk_bld : BlkOk 72 := ⟨by kernel_rfl, by decide⟩
def strSz : Value → Nat
  | .string s => s.size
  | _ => 0
theorem said_none : ∀ {l : List UInt8}, upTo [38] l = none → saidX l = some l
  | [], _ => rfl
  | c :: r, h => by
    unfold upTo at h
    by_cases hc : c = 38
    · subst hc; simp at h
    · have hp : [38].isPrefixOf (c :: r) = false := by simp [List.isPrefixOf, Ne.symm hc]
      rw [hp] at h
      simp at h
      rw [saidX_cons, if_neg hc, said_none h]; rfl
theorem said_some : ∀ {l a r : List UInt8}, upTo [38] l = some (a, r) → saidX l = (refX r).bind fun x => (saidX x.2).map (a ++ x.1 ++ ·)
  | [], a, r, h => by simp [upTo] at h
  | c :: l, a, r, h => by
    unfold upTo at h
    by_cases hc : c = 38
    · subst hc
      simp at h
      obtain ⟨rfl, rfl⟩ := h
      rw [saidX_cons, if_pos rfl]; rfl
    · have hp : [38].isPrefixOf (c :: l) = false := by simp [List.isPrefixOf, Ne.symm hc]
      rw [hp, if_neg (by decide)] at h
      obtain ⟨⟨a', b'⟩, h1, h2⟩ := Option.map_eq_some_iff.1 h
      simp only [Prod.mk.injEq] at h2
      obtain ⟨rfl, rfl⟩ := h2
      rw [saidX_cons, if_neg hc, said_some h1]
      cases refX b' with
      | none => rfl
      | some x => cases hs : saidX x.2 <;> simp [hs]
theorem utfX_len (n : Nat) : (utfX n).length ≤ 4 := by
  unfold utfX
  split
  · simp
  · split
    · simp
    · split <;> simp
theorem charX_len {b m : Nat} {d t : List UInt8} (h : charX b m d = some t) : t.length ≤ 4 := by
  unfold charX at h
  split at h
  · cases h
  · obtain ⟨n, _, h2⟩ := Option.bind_eq_some_iff.1 h
    split at h2
    · cases h2; exact utfX_len n
    · cases h2
theorem denX_len {s t : List UInt8} (h : denX s = some t) : t.length ≤ 4 := by
  unfold denX at h
  split at h
  · cases h; simp
  split at h
  · cases h; simp
  split at h
  · cases h; simp
  split at h
  · cases h; simp
  split at h
  · cases h; simp
  split at h
  · unfold numbX at h
    split at h <;> exact charX_len h
  · cases h
theorem refX_len {s t r : List UInt8} (h : refX s = some (t, r)) : t.length ≤ 4 := by
  unfold refX at h
  obtain ⟨x, _, h2⟩ := Option.bind_eq_some_iff.1 h
  obtain ⟨t', h3, h4⟩ := Option.map_eq_some_iff.1 h2
  cases h4
  exact denX_len h3
def saidV (o : Option (List UInt8)) : Value := match o with
  | some t => .tuple #[.string (mk t), .bool true]
  | none => .tuple #[.string ⟨#[]⟩, .bool false]
set_option maxHeartbeats 4000000 in
theorem denoted_any {B : Nat} {w : World} (hG : Gb B w) (hB : B ≤ w.heap.size) (s : ByteArray) (hl : s.size ≤ 100000) :
    Calls Tryz.prog 101 #[.string s] w fun e w' => e = .returned (saidV (saidX s.data.toList)) ∧ Below w.heap.size w w' := by
  have HF := hid (Lib.fresh_isBuilder 72 5 w)
  have HG := hid (fun (w1 : World) (h : Below w.heap.size w w1) => hG.below (h.mono hB))
  have HB : Hid (Below w.heap.size w (w.alloc (.cells #[.pointer none, .slice none 0 0] 72))) := hid ((Below.refl _ _).alloc (Nat.le_refl _) _)
  have hsz : s.data.toList.length = s.size := str_len s
  clear hG
  go_enter Tryz.func101, Tryz.ntmps101
  go_wp2
  go_loopw [0] (fun x wr => ∃ cur acc : List UInt8, x = .string (mk cur) ∧ Hid (Lib.IsBuilder 72 5 w.heap.size w.heap.size (Lib.byteCells acc) wr) ∧ Below w.heap.size w wr ∧ acc.length + 4 * cur.length ≤ 4 * s.size ∧ Hid (saidX s.data.toList = (saidX cur).map (acc ++ ·))) (fun x _ => strSz x)
  case atStart => exact ⟨s.data.toList, [], rfl, hid HF.out, HB.out, by rw [hsz]; simp, hid (by simp)⟩
  case round =>
    obtain ⟨cur, acc, rfl, hI, hb, hln, hS⟩ := hrel
    clear HF HB hsz
    have hcut := cut_any (HG.out wr hb) (mk cur) ⟨#[38]⟩ (by decide) (by rw [mk_size]; omega)
    rw [mk_data, show (⟨#[38]⟩ : ByteArray).data.toList = [38] from rfl, cutV] at hcut
    have hw := hb.size
    cases hu : upTo [38] cur with
    | none =>
      rw [hu] at hcut
      have HC : Hid (Calls Tryz.prog 44 #[.string (mk cur), .string ⟨#[38]⟩] wr fun x w' => x = .returned (.tuple #[.string (mk cur), .string (mk []), .bool false]) ∧ Below wr.heap.size wr w') := hid hcut
      have HN : Hid (saidX s.data.toList = some (acc ++ cur)) := hid (by rw [hS.out, said_none hu]; rfl)
      have HW := hid (fun (w1 : World) (h : Below wr.heap.size wr w1) => writeString_list blkOk_bld w.heap.size w.heap.size acc (mk cur) w1 (by
        rcases hI.out with k | k
        · left; exact ⟨k.1, by obtain ⟨_, v, h1, h2, h3⟩ := k; exact ⟨v, (h.block _ (by have := (Array.getElem?_eq_some_iff.1 h1).1; omega)).trans h1, ownsRow_below h2 h (Nat.le_refl _), h3⟩⟩
        · right; exact ⟨k.1, by obtain ⟨_, v, h1, h2, h3⟩ := k; exact ⟨v, (h.block _ (by have := (Array.getElem?_eq_some_iff.1 h1).1; omega)).trans h1, ownsRow_below h2 h (Nat.le_refl _), h3⟩⟩) (by rw [mk_size]; omega) (by have := h.size; omega))
      have HT := hid (fun (w2 : World) (h : Lib.IsBuilder 72 5 w.heap.size w.heap.size (Lib.byteCells (acc ++ (mk cur).data.toList)) w2) (hz : w.heap.size ≤ w2.heap.size) => string_any w.heap.size w.heap.size (acc ++ (mk cur).data.toList) w2 h hz)
      clear hcut hS hI hu
      go_wp2_with (first
        | (go_at_call 44; (with_reducible refine HC.out.mono ?_); rintro e w1 ⟨rfl, hb1⟩)
        | (go_at_call 39; (with_reducible refine (HW.out _ hb1).mono ?_); rintro e w2 ⟨rfl, hi2, hb2⟩)
        | (go_at_call 40; (with_reducible refine (HT.out _ hi2 (by have := hb1.size; have := hb2.size; omega)).mono ?_); rintro e w3 ⟨rfl, hb3⟩))
      go_ret2
      exact ⟨by rw [HN.out]; rfl, hb.trans ((hb1.mono hw).trans (hb2.trans hb3))⟩
    | some ar =>
      obtain ⟨a, r⟩ := ar
      rw [hu] at hcut
      have hlt := (upTo_lt hu).1
      simp at hlt
      have HC : Hid (Calls Tryz.prog 44 #[.string (mk cur), .string ⟨#[38]⟩] wr fun x w' => x = .returned (.tuple #[.string (mk a), .string (mk r), .bool true]) ∧ Below wr.heap.size wr w') := hid hcut
      have HSS := hS.out
      rw [said_some hu] at HSS
      have HW := hid (fun (w1 : World) (h : Below wr.heap.size wr w1) => writeString_list blkOk_bld w.heap.size w.heap.size acc (mk a) w1 (by
        rcases hI.out with k | k
        · left; exact ⟨k.1, by obtain ⟨_, v, h1, h2, h3⟩ := k; exact ⟨v, (h.block _ (by have := (Array.getElem?_eq_some_iff.1 h1).1; omega)).trans h1, ownsRow_below h2 h (Nat.le_refl _), h3⟩⟩
        · right; exact ⟨k.1, by obtain ⟨_, v, h1, h2, h3⟩ := k; exact ⟨v, (h.block _ (by have := (Array.getElem?_eq_some_iff.1 h1).1; omega)).trans h1, ownsRow_below h2 h (Nat.le_refl _), h3⟩⟩) (by rw [mk_size]; omega) (by have := h.size; omega))
      have HRf := hid (fun (w2 : World) (h : Below w.heap.size w w2) => reference_any (HG.out w2 h) (by have := h.size; omega) (mk r) (by rw [mk_size]; omega))
      cases hr : refX r with
      | none =>
        rw [hr] at HSS
        have HN : Hid (saidX s.data.toList = none) := hid HSS
        have HR2 : Hid (∀ w2, Below w.heap.size w w2 → Calls Tryz.prog 51 #[.string (mk r)] w2 fun e w' => ∃ q : List UInt8, q.length ≤ 100000 ∧ e = .returned (.tuple #[.string ⟨#[]⟩, .string (mk q), .bool false]) ∧ Below w2.heap.size w2 w') := hid (fun w2 h => (HRf.out w2 h).mono fun e w' ⟨_, h2, h3⟩ => by
          rw [mk_data] at h2
          obtain ⟨q, hq, he⟩ := h2 hr
          exact ⟨q, hq, he, h3⟩)
        clear hcut hS hI hu HSS HRf hr
        go_wp2_with (first
          | (go_at_call 44; (with_reducible refine HC.out.mono ?_); rintro e w1 ⟨rfl, hb1⟩)
          | (go_at_call 39; (with_reducible refine (HW.out _ hb1).mono ?_); rintro e w2 ⟨rfl, hi2, hb2⟩; have hb2' := hb.trans ((hb1.mono hw).trans hb2))
          | (go_at_call 51; (with_reducible refine (HR2.out _ hb2').mono ?_); rintro e w3 ⟨q, hq, rfl, hb3⟩))
        go_ret2
        exact ⟨by rw [HN.out]; rfl, hb2'.trans (hb3.mono hb2'.size)⟩
      | some x =>
        obtain ⟨t, q⟩ := x
        have hql := refX_lt hr
        have htl := refX_len hr
        rw [hr] at HSS
        have HN : Hid (saidX s.data.toList = (saidX q).map (acc ++ a ++ t ++ ·)) := hid (by rw [HSS, Option.bind_some]; cases saidX q <;> simp)
        have HR2 : Hid (∀ w2, Below w.heap.size w w2 → Calls Tryz.prog 51 #[.string (mk r)] w2 fun e w' => e = .returned (.tuple #[.string (mk t), .string (mk q), .bool true]) ∧ Below w2.heap.size w2 w') := hid (fun w2 h => (HRf.out w2 h).mono fun e w' ⟨h1, _, h3⟩ => by
          rw [mk_data] at h1
          exact ⟨h1 _ hr, h3⟩)
        have HW2 := hid (fun (w2 w3 : World) (hi : Lib.IsBuilder 72 5 w.heap.size w.heap.size (Lib.byteCells (acc ++ (mk a).data.toList)) w2) (h : Below w2.heap.size w2 w3) (hz : w.heap.size ≤ w2.heap.size) => writeString_list blkOk_bld w.heap.size w.heap.size (acc ++ (mk a).data.toList) (mk t) w3 (by
          rcases hi with k | k
          · left; exact ⟨k.1, by obtain ⟨_, v, h1, h2, h3⟩ := k; exact ⟨v, (h.block _ (by have := (Array.getElem?_eq_some_iff.1 h1).1; omega)).trans h1, ownsRow_below h2 h (Nat.le_refl _), h3⟩⟩
          · right; exact ⟨k.1, by obtain ⟨_, v, h1, h2, h3⟩ := k; exact ⟨v, (h.block _ (by have := (Array.getElem?_eq_some_iff.1 h1).1; omega)).trans h1, ownsRow_below h2 h (Nat.le_refl _), h3⟩⟩) (by rw [mk_size, List.length_append, mk_data]; omega) (by have := h.size; omega))
        have HM : Hid ((mk q).size < (mk cur).size) := hid (by rw [mk_size, mk_size]; omega)
        have HL : Hid ((acc ++ a ++ t).length + 4 * q.length ≤ 4 * s.size) := hid (by rw [List.length_append, List.length_append]; omega)
        clear hcut hS hI hu HSS HRf hr
        go_wp2_with (first
          | (go_at_call 44; (with_reducible refine HC.out.mono ?_); rintro e w1 ⟨rfl, hb1⟩)
          | (go_at_call 39; (with_reducible refine (HW.out _ hb1).mono ?_); rintro e w2 ⟨rfl, hi2, hb2⟩; have hb2' := hb.trans ((hb1.mono hw).trans hb2))
          | (go_at_call 51; (with_reducible refine (HR2.out _ hb2').mono ?_); rintro e w3 ⟨rfl, hb3⟩)
          | (go_at_call 39; (with_reducible refine (HW2.out _ _ hi2 hb3 hb2'.size).mono ?_); rintro e w4 ⟨rfl, hi4, hb4⟩))
        go_roundw
        case rel => exact ⟨q, acc ++ a ++ t, rfl, hid hi4, hb2'.trans ((hb3.mono hb2'.size).trans hb4), HL.out, HN⟩
        case measure => exact HM.out
end Go.Proofs.YtjoeamlidmmioaaGreatDoor

