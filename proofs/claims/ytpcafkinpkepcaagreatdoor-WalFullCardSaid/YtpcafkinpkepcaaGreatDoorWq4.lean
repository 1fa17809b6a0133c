import Init
import Derived.Test.YtpcafkinpkepcaaGreatDoorWq1
import Derived.WalkKit
import Derived.Shelf.Strconv.Itoa0
import Derived.Shelf.Strings.Prefix
import Derived.Test.YtpcafkinpkepcaaGreatDoorProg
/-
  Wq4: CodecMath, Crc, Bits, in one text.
-/
/-
  THE PLAIN MATHEMATICS OF LAYER 1 (codec): the checksum's register, bit by bit and four bits at a time; that it is linear, and that a register that is not 0 stays so.
-/
namespace Go.Proofs.YtpcafkinpkepcaaGreatDoor

/-- One bit of the register. -/
def bitStep (r : Nat) : Nat := if r % 2 = 1 then (r / 2) ^^^ 2197175160 else r / 2
def fourSteps (r : Nat) : Nat := bitStep (bitStep (bitStep (bitStep r)))
def byteStep (r c : Nat) : Nat := fourSteps (fourSteps (r ^^^ c))
def crcReg (r : Nat) (l : List UInt8) : Nat := l.foldl (fun r c => byteStep r c.toNat) r
def crc (l : List UInt8) : Nat := crcReg 4294967295 l ^^^ 4294967295

/-- What four steps do with the lowest four bits. -/
def tab (i : Nat) : Nat := [0, 274646895, 549293790, 820201905, 1098587580, 1361435347, 1640403810, 1905808397, 2197175160, 2460548119, 2722870694, 2987750089, 3280807620, 3553878443, 3811616794, 4084100981].getD i 0

theorem xor_half (a b : Nat) : (a ^^^ b) / 2 = a / 2 ^^^ b / 2 := by
  apply Nat.eq_of_testBit_eq; intro i; simp [Nat.testBit_div_two]
theorem xor_odd (a b : Nat) : (a ^^^ b) % 2 = (a % 2 + b % 2) % 2 := by
  have h := Nat.xor_mod_two_pow (a := a) (b := b) (n := 1)
  rw [show 2 ^ 1 = 2 from rfl] at h
  rw [h]
  rcases Nat.mod_two_eq_zero_or_one a with h | h <;> rcases Nat.mod_two_eq_zero_or_one b with k | k <;> simp [h, k]

theorem bitStep_xor (a b : Nat) : bitStep (a ^^^ b) = bitStep a ^^^ bitStep b := by
  unfold bitStep
  rw [xor_half, xor_odd]
  rcases Nat.mod_two_eq_zero_or_one a with h | h <;> rcases Nat.mod_two_eq_zero_or_one b with k | k <;> simp [h, k]
  · rw [Nat.xor_assoc]
  · rw [Nat.xor_assoc, Nat.xor_comm (b / 2), Nat.xor_assoc]
  · rw [Nat.xor_assoc, ← Nat.xor_assoc 2197175160, Nat.xor_comm 2197175160, Nat.xor_assoc (b / 2), Nat.xor_self, Nat.xor_zero]
theorem fourSteps_xor (a b : Nat) : fourSteps (a ^^^ b) = fourSteps a ^^^ fourSteps b := by simp only [fourSteps, bitStep_xor]

theorem bitStep_lt {r : Nat} (h : r < 4294967296) : bitStep r < 4294967296 := by
  unfold bitStep
  split
  · exact Nat.xor_lt_two_pow (n := 32) (by omega) (by omega)
  · omega
theorem fourSteps_lt {r : Nat} (h : r < 4294967296) : fourSteps r < 4294967296 := bitStep_lt (bitStep_lt (bitStep_lt (bitStep_lt h)))
theorem byteStep_lt {r c : Nat} (h : r < 4294967296) (hc : c < 256) : byteStep r c < 4294967296 :=
  fourSteps_lt (fourSteps_lt (Nat.xor_lt_two_pow (n := 32) h (by omega)))

theorem bitStep_double (q : Nat) : bitStep (2 * q) = q := by unfold bitStep; rw [if_neg (by omega)]; omega

theorem fourSteps_sixteen (q : Nat) : fourSteps (16 * q) = q := by
  unfold fourSteps
  rw [show 16 * q = 2 * (2 * (2 * (2 * q))) from by omega]
  simp only [bitStep_double]

theorem split16 (r : Nat) : r = 16 * (r / 16) ^^^ r % 16 := by
  apply Nat.eq_of_testBit_eq
  intro i
  rw [Nat.testBit_xor, show 16 = 2 ^ 4 from rfl, Nat.testBit_two_pow_mul, Nat.testBit_mod_two_pow, Nat.testBit_div_two_pow]
  by_cases h : i < 4
  · simp [h, show ¬ 4 ≤ i from by omega]
  · simp [h, show 4 ≤ i from by omega]

theorem fourSteps_tab (r : Nat) : fourSteps r = r / 16 ^^^ tab (r % 16) := by
  have h : fourSteps r = fourSteps (16 * (r / 16) ^^^ r % 16) := by rw [← split16]
  rw [h, fourSteps_xor, fourSteps_sixteen]
  congr 1
  have : r % 16 < 16 := Nat.mod_lt _ (by omega)
  generalize r % 16 = t at this
  match t, this with
  | 0, _ | 1, _ | 2, _ | 3, _ | 4, _ | 5, _ | 6, _ | 7, _ | 8, _ | 9, _ | 10, _ | 11, _ | 12, _ | 13, _ | 14, _ | 15, _ => decide
  | n + 16, h => omega

theorem tab_lt (i : Nat) : tab i < 4294967296 := by
  match i with
  | 0 | 1 | 2 | 3 | 4 | 5 | 6 | 7 | 8 | 9 | 10 | 11 | 12 | 13 | 14 | 15 => decide
  | n + 16 => simp [tab]


/-- Four bytes of a number, and a number of four bytes. -/
def word (n : Nat) : List UInt8 := [UInt8.ofNat (n / 16777216), UInt8.ofNat (n / 65536 % 256), UInt8.ofNat (n / 256 % 256), UInt8.ofNat (n % 256)]
def toWordL : List UInt8 → Nat
  | a :: b :: c :: d :: _ => 16777216 * a.toNat + 65536 * b.toNat + 256 * c.toNat + d.toNat
  | _ => 0
theorem word_length (n : Nat) : (word n).length = 4 := rfl
theorem ofNat_toNat' {n : Nat} (h : n < 256) : (UInt8.ofNat n).toNat = n := by
  rw [UInt8.toNat_ofNat']; exact Nat.mod_eq_of_lt h
theorem toWord_word {n : Nat} (h : n < 4294967296) (l : List UInt8) : toWordL (word n ++ l) = n := by
  show 16777216 * (UInt8.ofNat (n / 16777216)).toNat + 65536 * (UInt8.ofNat (n / 65536 % 256)).toNat + 256 * (UInt8.ofNat (n / 256 % 256)).toNat + (UInt8.ofNat (n % 256)).toNat = n
  rw [ofNat_toNat' (by omega), ofNat_toNat' (by omega), ofNat_toNat' (by omega), ofNat_toNat' (by omega)]
  omega
theorem four_of {l : List UInt8} (h : 4 ≤ l.length) : ∃ a b c d r, l = a :: b :: c :: d :: r := by
  match l, h with
  | a :: b :: c :: d :: r, _ => exact ⟨a, b, c, d, r, rfl⟩
theorem word_toWord {l : List UInt8} (h : 4 ≤ l.length) : word (toWordL l) = l.take 4 := by
  obtain ⟨a, b, c, d, r, rfl⟩ := four_of h
  have ha := a.toNat_lt; have hb := b.toNat_lt; have hc := c.toNat_lt; have hd := d.toNat_lt
  show [UInt8.ofNat _, UInt8.ofNat _, UInt8.ofNat _, UInt8.ofNat _] = [a, b, c, d]
  simp only [toWordL]
  rw [show (16777216 * a.toNat + 65536 * b.toNat + 256 * c.toNat + d.toNat) / 16777216 = a.toNat by omega,
    show (16777216 * a.toNat + 65536 * b.toNat + 256 * c.toNat + d.toNat) / 65536 % 256 = b.toNat by omega,
    show (16777216 * a.toNat + 65536 * b.toNat + 256 * c.toNat + d.toNat) / 256 % 256 = c.toNat by omega,
    show (16777216 * a.toNat + 65536 * b.toNat + 256 * c.toNat + d.toNat) % 256 = d.toNat by omega]
  simp only [UInt8.ofNat_toNat]
theorem toWordL_lt (l : List UInt8) : toWordL l < 4294967296 := by
  unfold toWordL
  split
  · rename_i a b c d _
    have ha := a.toNat_lt; have hb := b.toNat_lt; have hc := c.toNat_lt; have hd := d.toNat_lt
    omega
  · omega

theorem crcReg_lt (l : List UInt8) : ∀ r, r < 4294967296 → crcReg r l < 4294967296 := by
  induction l with
  | nil => intro r h; exact h
  | cons c l ih => intro r h; exact ih _ (byteStep_lt h c.toNat_lt)
theorem crc_lt (l : List UInt8) : crc l < 4294967296 := Nat.xor_lt_two_pow (n := 32) (crcReg_lt l _ (by omega)) (by omega)

/-- A frame, and what is read of bytes as one: the payload, the frame's length, the error. -/
def frameL (l : List UInt8) : List UInt8 := word l.length ++ word (crc (word l.length ++ l)) ++ l
theorem frameL_length (l : List UInt8) : (frameL l).length = 8 + l.length := by simp [frameL, word_length]; omega
def unframe (l : List UInt8) : List UInt8 × Nat × Nat :=
  if l.length < 4 then ([], 0, 8)
  else if 65536 < toWordL l then ([], 0, 10)
  else if l.length < 8 + toWordL l then ([], 0, 8)
  else if crc (l.take 4 ++ (l.drop 8).take (toWordL l)) ≠ toWordL (l.drop 4) then ([], 0, 9)
  else ((l.drop 8).take (toWordL l), 8 + toWordL l, 0)
end Go.Proofs.YtpcafkinpkepcaaGreatDoor

/-
  LAYER 1: the checksum: the program's Crc (by a table for four bits) and the document's (bit by bit): both return 'crc'. Condition: the table's cells hold its sixteen numbers ('Steps').
-/
namespace Go.Proofs.YtpcafkinpkepcaaGreatDoor
open Go.RowKit
set_option linter.unusedVariables false
set_option maxRecDepth 100000


/-- The table's cells hold its numbers. -/
def Steps (w : World) : Prop := ∀ i, i < 16 → w.cell? ⟨0, i, none⟩ = some (.int .u32 (tab i))

theorem Steps.below {B : Nat} {w w' : World} (h : Steps w) (hb : Below B w w') (hB : 0 < B) : Steps w' :=
  fun i hi => (hb.cell (p := ⟨0, i, none⟩) hB).trans (h i hi)
theorem Steps.drew {w : World} (h : Steps w) : Steps w.drew := h

theorem and15 (a : Nat) (h : a < 4294967296) : bits .and .u32 (a : Int) 15 = ((a % 16 : Nat) : Int) := by
  have := u32_and_nat a 15 h (by omega)
  rw [nat_mask4] at this
  exact this

theorem crcReg_snoc (r : Nat) (l : List UInt8) (c : UInt8) : crcReg r (l ++ [c]) = byteStep (crcReg r l) c.toNat := by simp [crcReg]

theorem take_snoc' (s : ByteArray) (k : Nat) (h : k < s.size) : s.data.toList.take (k + 1) = s.data.toList.take k ++ [s[k]] := by
  rw [List.take_succ_eq_append_getElem (by simpa using h)]; rfl

theorem crcReg_step (s : ByteArray) (k : Nat) (h : k < s.size) : crcReg 4294967295 (s.data.toList.take (k + 1)) = byteStep (crcReg 4294967295 (s.data.toList.take k)) s[k].toNat := by
  rw [take_snoc' s k h, crcReg_snoc]

set_option maxHeartbeats 400000 in
theorem crc_any (s : ByteArray) (w : World) (hs : s.size ≤ maxLen) (hT : Steps w) :
    Calls Tryz.prog 191 #[.string s] w fun e w' => e = .returned (.int .u32 (crc s.data.toList)) ∧ w = w' := by
  unfold maxLen at hs
  go_enter Tryz.func191, Tryz.ntmps191
  go_wp2
  go_loop [3, 7] (fun r i => ∃ k : Nat, k ≤ s.size ∧ i = .int .i64 k ∧ r = .int .u32 (crcReg 4294967295 (s.data.toList.take k) : Nat)) (fun _ i => s.size - (intOf i).toNat)
  case atStart => exact ⟨0, Nat.zero_le _, rfl, rfl⟩
  case round =>
    obtain ⟨k, hk, rfl, rfl⟩ := hrel
    have hx := crcReg_lt (s.data.toList.take k) 4294967295 (by omega)
    by_cases hlt : k < s.size
    · have hst := hid (crcReg_step s k hlt)
      generalize crcReg 4294967295 (s.data.toList.take k) = x at hx hst
      have hc : s[k].toNat < 256 := s[k].toNat_lt
      have hx1 : x ^^^ s[k].toNat < 4294967296 := Nat.xor_lt_two_pow (n := 32) hx (by omega)
      have e1 : bits .xor .u32 (x : Int) (s[k].toNat : Int) = ((x ^^^ s[k].toNat : Nat) : Int) := u32_xor_nat _ _ hx (by omega)
      have hb : byteStep x s[k].toNat = fourSteps (fourSteps (x ^^^ s[k].toNat)) := rfl
      generalize hr : x ^^^ s[k].toNat = r at *
      have e2 := and15 r hx1
      have c2 := hT (r % 16) (by omega)
      have e3 : bits .xor .u32 ((r : Int) / 16) (tab (r % 16) : Int) = ((fourSteps r : Nat) : Int) := by
        rw [fourSteps_tab]; exact u32_xor_nat (r / 16) _ (by omega) (tab_lt _)
      have hx2 := fourSteps_lt hx1
      generalize hr2 : fourSteps r = r2 at *
      have e4 := and15 r2 hx2
      have c4 := hT (r2 % 16) (by omega)
      have e5 : bits .xor .u32 ((r2 : Int) / 16) (tab (r2 % 16) : Int) = ((fourSteps r2 : Nat) : Int) := by
        rw [fourSteps_tab]; exact u32_xor_nat (r2 / 16) _ (by omega) (tab_lt _)
      have HB := hid hb
      have H2 := hid hr2
      clear hr hb hr2
      go_wp2
      go_round
      case rel => exact ⟨k + 1, by omega, by go_num, by rw [hst.out, HB.out]⟩
      case measure => simp [intOf]; omega
    · have e : k = s.size := by omega
      have hcr : crc s.data.toList = crcReg 4294967295 (s.data.toList.take k) ^^^ 4294967295 := by
        rw [List.take_of_length_le (by simp; omega)]; rfl
      have HC := hid hcr
      clear hcr e
      generalize crcReg 4294967295 (s.data.toList.take k) = x at hx HC
      have e1 : bits .xor .u32 IntKind.u32.max (x : Int) = ((x ^^^ 4294967295 : Nat) : Int) := by
        have h := u32_xor_nat 4294967295 x (by omega) hx
        rw [Nat.xor_comm] at h
        exact h
      go_wp2
      all_goals go_ret
      all_goals exact ⟨by rw [HC.out]; rfl, rfl⟩

/-! ### The document's -/
theorem byteStep_eight (r c : Nat) : byteStep r c = bitStep (bitStep (bitStep (bitStep (bitStep (bitStep (bitStep (bitStep (r ^^^ c)))))))) := rfl

/-- k steps of the register. -/
def bitSteps (r : Nat) : Nat → Nat
  | 0 => r
  | k + 1 => bitStep (bitSteps r k)
theorem bitSteps_lt {r : Nat} (h : r < 4294967296) : ∀ k, bitSteps r k < 4294967296
  | 0 => h
  | k + 1 => bitStep_lt (bitSteps_lt h k)

set_option maxHeartbeats 800000 in
theorem refCrc_any (s : ByteArray) (w : World) (hs : s.size ≤ maxLen) :
    Calls Tryz.prog 166 #[.string s] w fun e w' => e = .returned (.int .u32 (crc s.data.toList)) ∧ w = w' := by
  unfold maxLen at hs
  go_enter Tryz.func166, Tryz.ntmps166
  go_wp2
  go_loop [3, 4, 5] (fun r i _ => ∃ k : Nat, k ≤ s.size ∧ i = .int .i64 k ∧ r = .int .u32 (crcReg 4294967295 (s.data.toList.take k) : Nat)) (fun _ i _ => s.size - (intOf i).toNat)
  case atStart => exact ⟨0, Nat.zero_le _, rfl, rfl⟩
  case round =>
    obtain ⟨k, hk, rfl, rfl⟩ := hrel
    have hx := crcReg_lt (s.data.toList.take k) 4294967295 (by omega)
    by_cases hlt : k < s.size
    · have hst := hid (crcReg_step s k hlt)
      generalize crcReg 4294967295 (s.data.toList.take k) = x at hx hst
      have hc : s[k].toNat < 256 := s[k].toNat_lt
      have hx1 : x ^^^ s[k].toNat < 4294967296 := Nat.xor_lt_two_pow (n := 32) hx (by omega)
      have e1 : bits .xor .u32 (x : Int) (s[k].toNat : Int) = ((x ^^^ s[k].toNat : Nat) : Int) := u32_xor_nat _ _ hx (by omega)
      have hb := hid (byteStep_eight x s[k].toNat)
      generalize x ^^^ s[k].toNat = r at *
      go_wp2
      go_loop [3, 5] (fun r' i => ∃ m : Nat, m ≤ 8 ∧ i = .int .i64 m ∧ r' = .int .u32 (bitSteps r m : Nat)) (fun _ i => 8 - (intOf i).toNat)
      case atStart => exact ⟨0, Nat.zero_le _, rfl, rfl⟩
      case round =>
        obtain ⟨m, hm, rfl, rfl⟩ := hrel
        have hy := bitSteps_lt hx1 m
        by_cases hm8 : m < 8
        · have hsm : Hid (bitSteps r (m + 1) = bitStep (bitSteps r m)) := hid rfl
          generalize bitSteps r m = y at hy hsm
          by_cases hodd : y % 2 = 1
          · have e2 : bits .xor .u32 ((y : Int) / 2) 2197175160 = ((bitStep y : Nat) : Int) := by
              unfold bitStep; rw [if_pos hodd]; exact u32_xor_nat (y / 2) 2197175160 (by omega) (by omega)
            go_wp2
            go_round
            case rel => exact ⟨m + 1, by omega, by go_num, by rw [hsm.out]⟩
            case measure => simp [intOf]; omega
          · have e2 : (y : Int) / 2 = ((bitStep y : Nat) : Int) := by
              unfold bitStep; rw [if_neg hodd]; rfl
            have H2 := hid e2
            clear e2
            go_wp2
            go_round
            case rel => exact ⟨m + 1, by omega, by go_num, by rw [hsm.out, ← H2.out]⟩
            case measure => simp [intOf]; omega
        · have e8 : m = 8 := by omega
          subst e8
          go_wp2
          go_round
          case rel => exact ⟨k + 1, by omega, by go_num, by rw [hst.out, hb.out]; rfl⟩
          case measure => simp [intOf]; omega
    · have e : k = s.size := by omega
      have hcr : crc s.data.toList = crcReg 4294967295 (s.data.toList.take k) ^^^ 4294967295 := by
        rw [List.take_of_length_le (by simp; omega)]; rfl
      have HC := hid hcr
      clear hcr e
      generalize crcReg 4294967295 (s.data.toList.take k) = x at hx HC
      have e1 : bits .xor .u32 (x : Int) 4294967295 = ((x ^^^ 4294967295 : Nat) : Int) := u32_xor_nat x 4294967295 hx (by omega)
      go_wp2
      all_goals go_ret
      all_goals exact ⟨by rw [HC.out]; rfl, rfl⟩
end Go.Proofs.YtpcafkinpkepcaaGreatDoor

/-
  math/bits.Len64 and strings.HasPrefix, off the shelf's contracts (the table of numbers in plain words).
-/
namespace Go.Proofs.YtpcafkinpkepcaaGreatDoor
open Go.Shelf
def lays129_ren : Go.Shelf.Ren := ⟨fun | 129 => 181 | n => n, fun | 53 => 216 | 3 => 3 | 4 => 4 | 46 => 178 | 5 => 5 | 9 => 9 | n => n, fun | n => n⟩
theorem lays129 : Go.Proofs.Lays.n129 Tryz.prog lays129_ren := {
  mixed := by kernel_rfl
  f129 := Tryz.func181.trans (congrArg some (by kernel_rfl))
  t3 := Tryz.underlying3
  a3 := Tryz.isAgg3
  z3 := Tryz.sizeOf3
  v3 := Tryz.zeroValue3
  t4 := Tryz.underlying4
  a4 := Tryz.isAgg4
  z4 := Tryz.sizeOf4
  v4 := Tryz.zeroValue4
  t5 := Tryz.underlying5
  a5 := Tryz.isAgg5
  z5 := Tryz.sizeOf5
  v5 := Tryz.zeroValue5
  t9 := Tryz.underlying9
  a9 := Tryz.isAgg9
  z9 := Tryz.sizeOf9
  v9 := Tryz.zeroValue9
  t46 := Tryz.underlying178
  a46 := Tryz.isAgg178
  z46 := Tryz.sizeOf178
  v46 := Tryz.zeroValue178
  t53 := Tryz.underlying216
  a53 := Tryz.isAgg216
  z53 := Tryz.sizeOf216
  v53 := Tryz.zeroValue216 }
theorem bits_Len64 (x : Int) (w : World) (h0 : 0 ≤ x) (h1 : x ≤ 18446744073709551615) :
    Calls Tryz.prog 181 #[.int .u64 x] w fun e w' => e = .returned (.int .i64 (Lib.bitLen x.toNat)) ∧ w' = w := Any.bits_Len64 lays129 x w h0 h1
def lays206_ren : Go.Shelf.Ren := ⟨fun | 206 => 235 | n => n, fun | 9 => 9 | 4 => 4 | 3 => 3 | n => n, fun | n => n⟩
def lays99_ren : Go.Shelf.Ren := ⟨fun | 99 => 210 | 206 => 235 | n => n, fun | 9 => 9 | 4 => 4 | 3 => 3 | n => n, fun | n => n⟩
theorem lays99 : Go.Proofs.Lays.n99 Tryz.prog lays99_ren := {
  mixed := by kernel_rfl
  f99 := Tryz.func210.trans (congrArg some (by kernel_rfl))
  f206 := Tryz.func235.trans (congrArg some (by kernel_rfl))
  t3 := Tryz.underlying3
  a3 := Tryz.isAgg3
  z3 := Tryz.sizeOf3
  v3 := Tryz.zeroValue3
  t4 := Tryz.underlying4
  a4 := Tryz.isAgg4
  z4 := Tryz.sizeOf4
  v4 := Tryz.zeroValue4
  t9 := Tryz.underlying9
  a9 := Tryz.isAgg9
  z9 := Tryz.sizeOf9
  v9 := Tryz.zeroValue9 }
open Go.RowKit Go.Lib in
theorem strings_HasPrefix (s p : ByteArray) (w : World) :
    Calls Tryz.prog 210 #[.string s, .string p] w fun e w' => e = .returned (.bool (Lib.hasPrefix s.data.toList p.data.toList)) ∧ w' = w := Any.strings_HasPrefix lays99 s p w
end Go.Proofs.YtpcafkinpkepcaaGreatDoor

