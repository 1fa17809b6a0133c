/-
  THE PLAIN MATHEMATICS OF LAYER 1 (codec): what was written is read as it was.
-/
import Derived.Test.YtpfchdplcbjfdaaDoorTexts
namespace Go.Proofs.YtpfchdplcbjfdaaDoor
set_option linter.unusedVariables false

theorem toText_txt (t s : List UInt8) (ht : t.length ≤ 9223372036854775807) : toText (txt t ++ s) = some (t, s) := by
  unfold toText txt
  rw [List.append_assoc, toInt_enc (nat64_lt (by omega) (by omega))]
  simp only [unz_nat64]
  rw [if_neg (by simp; omega), Int.toNat_natCast]
  simp

theorem toWord_frame (l s : List UInt8) (hl : l.length ≤ 65536) : toWordL (frameL l ++ s) = l.length := by
  unfold frameL
  rw [List.append_assoc, List.append_assoc]
  exact toWord_word (by omega) _
theorem unframe_frame (l s : List UInt8) (hl : l.length ≤ 65536) : unframe (frameL l ++ s) = (l, 8 + l.length, 0) := by
  have h1 := toWord_frame l s hl
  have h4 : (frameL l ++ s).take 4 = word l.length := by unfold frameL; rw [List.append_assoc, List.append_assoc]; rfl
  have h8 : ((frameL l ++ s).drop 8).take l.length = l := by
    unfold frameL
    rw [List.append_assoc, List.append_assoc]
    show (l ++ s).take l.length = l
    simp
  have hd : toWordL ((frameL l ++ s).drop 4) = crc (word l.length ++ l) := by
    unfold frameL
    rw [List.append_assoc, List.append_assoc]
    exact toWord_word (crc_lt _) _
  unfold unframe
  rw [h1, h4, h8, hd, if_neg (by rw [List.length_append, frameL_length]; omega), if_neg (by omega), if_neg (by rw [List.length_append, frameL_length]; omega), if_neg (by simp)]

theorem unframe_cases (l : List UInt8) : (∃ e, (unframe l) = ([], 0, e) ∧ (e = 8 ∨ e = 9 ∨ e = 10)) ∨ ∃ p : List UInt8, unframe l = (p, 8 + p.length, 0) ∧ p.length ≤ 65536 ∧ 8 + p.length ≤ l.length ∧ frameL p = l.take (8 + p.length) := by
  unfold unframe
  by_cases h1 : l.length < 4
  · rw [if_pos h1]; exact .inl ⟨8, rfl, .inl rfl⟩
  · rw [if_neg h1]
    by_cases h2 : 65536 < toWordL l
    · rw [if_pos h2]; exact .inl ⟨10, rfl, .inr (.inr rfl)⟩
    · rw [if_neg h2]
      by_cases h3 : l.length < 8 + toWordL l
      · rw [if_pos h3]; exact .inl ⟨8, rfl, .inl rfl⟩
      · rw [if_neg h3]
        by_cases h4 : crc (l.take 4 ++ (l.drop 8).take (toWordL l)) ≠ toWordL (l.drop 4)
        · rw [if_pos h4]; exact .inl ⟨9, rfl, .inr (.inl rfl)⟩
        · rw [if_neg h4]
          have h4 : crc (l.take 4 ++ (l.drop 8).take (toWordL l)) = toWordL (l.drop 4) := Decidable.not_not.1 h4
          have hlen : ((l.drop 8).take (toWordL l)).length = toWordL l := by rw [List.length_take, List.length_drop]; omega
          refine .inr ⟨(l.drop 8).take (toWordL l), by rw [hlen], by omega, by omega, ?_⟩
          unfold frameL
          rw [hlen, word_toWord (by omega), h4, word_toWord (by rw [List.length_drop]; omega)]
          rw [show 8 + toWordL l = 4 + (4 + toWordL l) by omega, List.take_add, List.take_add, List.drop_drop, List.append_assoc]

/-! ### The sum is linear -/
def xor3 : List UInt8 → List UInt8 → List UInt8 → List UInt8
  | a :: l, b :: m, c :: n => (a ^^^ b ^^^ c) :: xor3 l m n
  | _, _, _ => []
theorem byteStep_xor (r s c d : Nat) : byteStep (r ^^^ s) (c ^^^ d) = byteStep r c ^^^ byteStep s d := by
  unfold byteStep
  rw [show r ^^^ s ^^^ (c ^^^ d) = (r ^^^ c) ^^^ (s ^^^ d) by rw [Nat.xor_assoc, ← Nat.xor_assoc s, Nat.xor_comm s c, Nat.xor_assoc c, ← Nat.xor_assoc], fourSteps_xor, fourSteps_xor]
theorem crcReg_xor3 : ∀ (l m n : List UInt8) (r s t : Nat), l.length = m.length → m.length = n.length → crcReg (r ^^^ s ^^^ t) (xor3 l m n) = crcReg r l ^^^ crcReg s m ^^^ crcReg t n
  | [], [], [], r, s, t, _, _ => rfl
  | a :: l, b :: m, c :: n, r, s, t, h1, h2 => by
    show crcReg (byteStep (r ^^^ s ^^^ t) (a ^^^ b ^^^ c).toNat) (xor3 l m n) = crcReg (byteStep r a.toNat) l ^^^ crcReg (byteStep s b.toNat) m ^^^ crcReg (byteStep t c.toNat) n
    rw [UInt8.toNat_xor, UInt8.toNat_xor, byteStep_xor, byteStep_xor]
    exact crcReg_xor3 l m n _ _ _ (by simpa using h1) (by simpa using h2)
theorem crc_xor3 (l m n : List UInt8) (h1 : l.length = m.length) (h2 : m.length = n.length) : crc (xor3 l m n) = crc l ^^^ crc m ^^^ crc n := by
  unfold crc
  have h := crcReg_xor3 l m n 4294967295 4294967295 4294967295 h1 h2
  rw [show 4294967295 ^^^ 4294967295 ^^^ 4294967295 = 4294967295 from rfl] at h
  rw [h]
  generalize crcReg 4294967295 l = x; generalize crcReg 4294967295 m = y; generalize crcReg 4294967295 n = z
  apply Nat.eq_of_testBit_eq
  intro i
  simp only [Nat.testBit_xor]
  generalize Nat.testBit x i = a; generalize Nat.testBit y i = b; generalize Nat.testBit z i = c; generalize Nat.testBit 4294967295 i = d
  cases a <;> cases b <;> cases c <;> cases d <;> rfl
theorem xor3_length : ∀ (l m n : List UInt8), l.length = m.length → m.length = n.length → (xor3 l m n).length = l.length
  | [], [], [], _, _ => rfl
  | a :: l, b :: m, c :: n, h1, h2 => by simp only [xor3, List.length_cons]; rw [xor3_length l m n (by simpa using h1) (by simpa using h2)]
theorem xor3_get : ∀ (l m n : List UInt8) (i : Nat) (a b c : UInt8), l[i]? = some a → m[i]? = some b → n[i]? = some c → (xor3 l m n)[i]? = some (a ^^^ b ^^^ c)
  | a :: l, b :: m, c :: n, 0, x, y, z, h1, h2, h3 => by simp at h1 h2 h3; subst h1 h2 h3; rfl
  | a :: l, b :: m, c :: n, i + 1, x, y, z, h1, h2, h3 => by simpa [xor3] using xor3_get l m n i x y z (by simpa using h1) (by simpa using h2) (by simpa using h3)
end Go.Proofs.YtpfchdplcbjfdaaDoor
