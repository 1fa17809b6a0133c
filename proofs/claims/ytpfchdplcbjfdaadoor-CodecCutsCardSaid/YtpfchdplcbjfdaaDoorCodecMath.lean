/-
  THE PLAIN MATHEMATICS OF LAYER 1 (codec): the checksum's register, bit by bit and four bits at a time; that it is linear, and that a register that is not 0 stays so.
-/
import Init
namespace Go.Proofs.YtpfchdplcbjfdaaDoor

/-- One bit of the register. -/
def bitStep (r : Nat) : Nat := if r % 2 = 1 then (r / 2) ^^^ 2197175160 else r / 2
def fourSteps (r : Nat) : Nat := bitStep (bitStep (bitStep (bitStep r)))
def byteStep (r c : Nat) : Nat := fourSteps (fourSteps (r ^^^ c))
def crcReg (r : Nat) (l : List UInt8) : Nat := l.foldl (fun r c => byteStep r c.toNat) r
def crc (l : List UInt8) : Nat := crcReg 4294967295 l ^^^ 4294967295

/-- What four steps do with the lowest four bits. -/
def tab (i : Nat) : Nat := [0, 274646895, 549293790, 820201905, 1098587580, 1361435347, 1640403810, 1905808397, 2197175160, 2460548119, 2722870694, 2987750089, 3280807620, 3553878443, 3811616794, 4084100981].getD i 0

theorem xor_half (a b : Nat) : (a ^^^ b) / 2 = a / 2 ^^^ b / 2 := by
  apply Nat.eq_of_testBit_eq; intro i; simp [Nat.testBit_div_two]
theorem xor_odd (a b : Nat) : (a ^^^ b) % 2 = (a % 2 + b % 2) % 2 := by
  have h := Nat.xor_mod_two_pow (a := a) (b := b) (n := 1)
  rw [show 2 ^ 1 = 2 from rfl] at h
  rw [h]
  rcases Nat.mod_two_eq_zero_or_one a with h | h <;> rcases Nat.mod_two_eq_zero_or_one b with k | k <;> simp [h, k]

theorem bitStep_xor (a b : Nat) : bitStep (a ^^^ b) = bitStep a ^^^ bitStep b := by
  unfold bitStep
  rw [xor_half, xor_odd]
  rcases Nat.mod_two_eq_zero_or_one a with h | h <;> rcases Nat.mod_two_eq_zero_or_one b with k | k <;> simp [h, k]
  · rw [Nat.xor_assoc]
  · rw [Nat.xor_assoc, Nat.xor_comm (b / 2), Nat.xor_assoc]
  · rw [Nat.xor_assoc, ← Nat.xor_assoc 2197175160, Nat.xor_comm 2197175160, Nat.xor_assoc (b / 2), Nat.xor_self, Nat.xor_zero]
theorem fourSteps_xor (a b : Nat) : fourSteps (a ^^^ b) = fourSteps a ^^^ fourSteps b := by simp only [fourSteps, bitStep_xor]

theorem bitStep_lt {r : Nat} (h : r < 4294967296) : bitStep r < 4294967296 := by
  unfold bitStep
  split
  · exact Nat.xor_lt_two_pow (n := 32) (by omega) (by omega)
  · omega
theorem fourSteps_lt {r : Nat} (h : r < 4294967296) : fourSteps r < 4294967296 := bitStep_lt (bitStep_lt (bitStep_lt (bitStep_lt h)))
theorem byteStep_lt {r c : Nat} (h : r < 4294967296) (hc : c < 256) : byteStep r c < 4294967296 :=
  fourSteps_lt (fourSteps_lt (Nat.xor_lt_two_pow (n := 32) h (by omega)))

theorem bitStep_double (q : Nat) : bitStep (2 * q) = q := by unfold bitStep; rw [if_neg (by omega)]; omega

theorem fourSteps_sixteen (q : Nat) : fourSteps (16 * q) = q := by
  unfold fourSteps
  rw [show 16 * q = 2 * (2 * (2 * (2 * q))) from by omega]
  simp only [bitStep_double]

theorem split16 (r : Nat) : r = 16 * (r / 16) ^^^ r % 16 := by
  apply Nat.eq_of_testBit_eq
  intro i
  rw [Nat.testBit_xor, show 16 = 2 ^ 4 from rfl, Nat.testBit_two_pow_mul, Nat.testBit_mod_two_pow, Nat.testBit_div_two_pow]
  by_cases h : i < 4
  · simp [h, show ¬ 4 ≤ i from by omega]
  · simp [h, show 4 ≤ i from by omega]

theorem fourSteps_tab (r : Nat) : fourSteps r = r / 16 ^^^ tab (r % 16) := by
  have h : fourSteps r = fourSteps (16 * (r / 16) ^^^ r % 16) := by rw [← split16]
  rw [h, fourSteps_xor, fourSteps_sixteen]
  congr 1
  have : r % 16 < 16 := Nat.mod_lt _ (by omega)
  generalize r % 16 = t at this
  match t, this with
  | 0, _ | 1, _ | 2, _ | 3, _ | 4, _ | 5, _ | 6, _ | 7, _ | 8, _ | 9, _ | 10, _ | 11, _ | 12, _ | 13, _ | 14, _ | 15, _ => decide
  | n + 16, h => omega

theorem tab_lt (i : Nat) : tab i < 4294967296 := by
  match i with
  | 0 | 1 | 2 | 3 | 4 | 5 | 6 | 7 | 8 | 9 | 10 | 11 | 12 | 13 | 14 | 15 => decide
  | n + 16 => simp [tab]


/-- Four bytes of a number, and a number of four bytes. -/
def word (n : Nat) : List UInt8 := [UInt8.ofNat (n / 16777216), UInt8.ofNat (n / 65536 % 256), UInt8.ofNat (n / 256 % 256), UInt8.ofNat (n % 256)]
def toWordL : List UInt8 → Nat
  | a :: b :: c :: d :: _ => 16777216 * a.toNat + 65536 * b.toNat + 256 * c.toNat + d.toNat
  | _ => 0
theorem word_length (n : Nat) : (word n).length = 4 := rfl
theorem ofNat_toNat' {n : Nat} (h : n < 256) : (UInt8.ofNat n).toNat = n := by
  rw [UInt8.toNat_ofNat']; exact Nat.mod_eq_of_lt h
theorem toWord_word {n : Nat} (h : n < 4294967296) (l : List UInt8) : toWordL (word n ++ l) = n := by
  show 16777216 * (UInt8.ofNat (n / 16777216)).toNat + 65536 * (UInt8.ofNat (n / 65536 % 256)).toNat + 256 * (UInt8.ofNat (n / 256 % 256)).toNat + (UInt8.ofNat (n % 256)).toNat = n
  rw [ofNat_toNat' (by omega), ofNat_toNat' (by omega), ofNat_toNat' (by omega), ofNat_toNat' (by omega)]
  omega
theorem four_of {l : List UInt8} (h : 4 ≤ l.length) : ∃ a b c d r, l = a :: b :: c :: d :: r := by
  match l, h with
  | a :: b :: c :: d :: r, _ => exact ⟨a, b, c, d, r, rfl⟩
theorem word_toWord {l : List UInt8} (h : 4 ≤ l.length) : word (toWordL l) = l.take 4 := by
  obtain ⟨a, b, c, d, r, rfl⟩ := four_of h
  have ha := a.toNat_lt; have hb := b.toNat_lt; have hc := c.toNat_lt; have hd := d.toNat_lt
  show [UInt8.ofNat _, UInt8.ofNat _, UInt8.ofNat _, UInt8.ofNat _] = [a, b, c, d]
  simp only [toWordL]
  rw [show (16777216 * a.toNat + 65536 * b.toNat + 256 * c.toNat + d.toNat) / 16777216 = a.toNat by omega,
    show (16777216 * a.toNat + 65536 * b.toNat + 256 * c.toNat + d.toNat) / 65536 % 256 = b.toNat by omega,
    show (16777216 * a.toNat + 65536 * b.toNat + 256 * c.toNat + d.toNat) / 256 % 256 = c.toNat by omega,
    show (16777216 * a.toNat + 65536 * b.toNat + 256 * c.toNat + d.toNat) % 256 = d.toNat by omega]
  simp only [UInt8.ofNat_toNat]
theorem toWordL_lt (l : List UInt8) : toWordL l < 4294967296 := by
  unfold toWordL
  split
  · rename_i a b c d _
    have ha := a.toNat_lt; have hb := b.toNat_lt; have hc := c.toNat_lt; have hd := d.toNat_lt
    omega
  · omega

theorem crcReg_lt (l : List UInt8) : ∀ r, r < 4294967296 → crcReg r l < 4294967296 := by
  induction l with
  | nil => intro r h; exact h
  | cons c l ih => intro r h; exact ih _ (byteStep_lt h c.toNat_lt)
theorem crc_lt (l : List UInt8) : crc l < 4294967296 := Nat.xor_lt_two_pow (n := 32) (crcReg_lt l _ (by omega)) (by omega)

/-- A frame, and what is read of bytes as one: the payload, the frame's length, the error. -/
def frameL (l : List UInt8) : List UInt8 := word l.length ++ word (crc (word l.length ++ l)) ++ l
theorem frameL_length (l : List UInt8) : (frameL l).length = 8 + l.length := by simp [frameL, word_length]; omega
def unframe (l : List UInt8) : List UInt8 × Nat × Nat :=
  if l.length < 4 then ([], 0, 8)
  else if 65536 < toWordL l then ([], 0, 10)
  else if l.length < 8 + toWordL l then ([], 0, 8)
  else if crc (l.take 4 ++ (l.drop 8).take (toWordL l)) ≠ toWordL (l.drop 4) then ([], 0, 9)
  else ((l.drop 8).take (toWordL l), 8 + toWordL l, 0)
end Go.Proofs.YtpfchdplcbjfdaaDoor
