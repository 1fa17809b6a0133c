import Derived.Test.YtpcafkinpkepcaaGreatDoorWq9
/-
  Wq10: CodecMath2, in one text.
-/
/-
  THE PLAIN MATHEMATICS OF LAYER 1 (codec): what was written is read as it was.
-/
namespace Go.Proofs.YtpcafkinpkepcaaGreatDoor
set_option linter.unusedVariables false
set_option maxRecDepth 100000

theorem toText_txt (t s : List UInt8) (ht : t.length ≤ 9223372036854775807) : toText (txt t ++ s) = some (t, s) := by
  unfold toText txt
  rw [List.append_assoc, toInt_enc (nat64_lt (by omega) (by omega))]
  simp only [unz_nat64]
  rw [if_neg (by simp; omega), Int.toNat_natCast]
  simp

theorem toWord_frame (l s : List UInt8) (hl : l.length ≤ 65536) : toWordL (frameL l ++ s) = l.length := by
  unfold frameL
  rw [List.append_assoc, List.append_assoc]
  exact toWord_word (by omega) _
theorem unframe_frame (l s : List UInt8) (hl : l.length ≤ 65536) : unframe (frameL l ++ s) = (l, 8 + l.length, 0) := by
  have h1 := toWord_frame l s hl
  have h4 : (frameL l ++ s).take 4 = word l.length := by unfold frameL; rw [List.append_assoc, List.append_assoc]; rfl
  have h8 : ((frameL l ++ s).drop 8).take l.length = l := by
    unfold frameL
    rw [List.append_assoc, List.append_assoc]
    show (l ++ s).take l.length = l
    simp
  have hd : toWordL ((frameL l ++ s).drop 4) = crc (word l.length ++ l) := by
    unfold frameL
    rw [List.append_assoc, List.append_assoc]
    exact toWord_word (crc_lt _) _
  unfold unframe
  rw [h1, h4, h8, hd, if_neg (by rw [List.length_append, frameL_length]; omega), if_neg (by omega), if_neg (by rw [List.length_append, frameL_length]; omega), if_neg (by simp)]

theorem unframe_cases (l : List UInt8) : (∃ e, (unframe l) = ([], 0, e) ∧ (e = 8 ∨ e = 9 ∨ e = 10)) ∨ ∃ p : List UInt8, unframe l = (p, 8 + p.length, 0) ∧ p.length ≤ 65536 ∧ 8 + p.length ≤ l.length ∧ frameL p = l.take (8 + p.length) := by
  unfold unframe
  by_cases h1 : l.length < 4
  · rw [if_pos h1]; exact .inl ⟨8, rfl, .inl rfl⟩
  · rw [if_neg h1]
    by_cases h2 : 65536 < toWordL l
    · rw [if_pos h2]; exact .inl ⟨10, rfl, .inr (.inr rfl)⟩
    · rw [if_neg h2]
      by_cases h3 : l.length < 8 + toWordL l
      · rw [if_pos h3]; exact .inl ⟨8, rfl, .inl rfl⟩
      · rw [if_neg h3]
        by_cases h4 : crc (l.take 4 ++ (l.drop 8).take (toWordL l)) ≠ toWordL (l.drop 4)
        · rw [if_pos h4]; exact .inl ⟨9, rfl, .inr (.inl rfl)⟩
        · rw [if_neg h4]
          have h4 : crc (l.take 4 ++ (l.drop 8).take (toWordL l)) = toWordL (l.drop 4) := Decidable.not_not.1 h4
          have hlen : ((l.drop 8).take (toWordL l)).length = toWordL l := by rw [List.length_take, List.length_drop]; omega
          refine .inr ⟨(l.drop 8).take (toWordL l), by rw [hlen], by omega, by omega, ?_⟩
          unfold frameL
          rw [hlen, word_toWord (by omega), h4, word_toWord (by rw [List.length_drop]; omega)]
          rw [show 8 + toWordL l = 4 + (4 + toWordL l) by omega, List.take_add, List.take_add, List.drop_drop, List.append_assoc]

/-! ### The sum is linear -/
def xor3 : List UInt8 → List UInt8 → List UInt8 → List UInt8
  | a :: l, b :: m, c :: n => (a ^^^ b ^^^ c) :: xor3 l m n
  | _, _, _ => []
theorem byteStep_xor (r s c d : Nat) : byteStep (r ^^^ s) (c ^^^ d) = byteStep r c ^^^ byteStep s d := by
  unfold byteStep
  rw [show r ^^^ s ^^^ (c ^^^ d) = (r ^^^ c) ^^^ (s ^^^ d) by rw [Nat.xor_assoc, ← Nat.xor_assoc s, Nat.xor_comm s c, Nat.xor_assoc c, ← Nat.xor_assoc], fourSteps_xor, fourSteps_xor]
theorem crcReg_xor3 : ∀ (l m n : List UInt8) (r s t : Nat), l.length = m.length → m.length = n.length → crcReg (r ^^^ s ^^^ t) (xor3 l m n) = crcReg r l ^^^ crcReg s m ^^^ crcReg t n
  | [], [], [], r, s, t, _, _ => rfl
  | a :: l, b :: m, c :: n, r, s, t, h1, h2 => by
    show crcReg (byteStep (r ^^^ s ^^^ t) (a ^^^ b ^^^ c).toNat) (xor3 l m n) = crcReg (byteStep r a.toNat) l ^^^ crcReg (byteStep s b.toNat) m ^^^ crcReg (byteStep t c.toNat) n
    rw [UInt8.toNat_xor, UInt8.toNat_xor, byteStep_xor, byteStep_xor]
    exact crcReg_xor3 l m n _ _ _ (by simpa using h1) (by simpa using h2)
theorem crc_xor3 (l m n : List UInt8) (h1 : l.length = m.length) (h2 : m.length = n.length) : crc (xor3 l m n) = crc l ^^^ crc m ^^^ crc n := by
  unfold crc
  have h := crcReg_xor3 l m n 4294967295 4294967295 4294967295 h1 h2
  rw [show 4294967295 ^^^ 4294967295 ^^^ 4294967295 = 4294967295 from rfl] at h
  rw [h]
  generalize crcReg 4294967295 l = x; generalize crcReg 4294967295 m = y; generalize crcReg 4294967295 n = z
  apply Nat.eq_of_testBit_eq
  intro i
  simp only [Nat.testBit_xor]
  generalize Nat.testBit x i = a; generalize Nat.testBit y i = b; generalize Nat.testBit z i = c; generalize Nat.testBit 4294967295 i = d
  cases a <;> cases b <;> cases c <;> cases d <;> rfl
theorem xor3_length : ∀ (l m n : List UInt8), l.length = m.length → m.length = n.length → (xor3 l m n).length = l.length
  | [], [], [], _, _ => rfl
  | a :: l, b :: m, c :: n, h1, h2 => by simp only [xor3, List.length_cons]; rw [xor3_length l m n (by simpa using h1) (by simpa using h2)]
theorem xor3_get : ∀ (l m n : List UInt8) (i : Nat) (a b c : UInt8), l[i]? = some a → m[i]? = some b → n[i]? = some c → (xor3 l m n)[i]? = some (a ^^^ b ^^^ c)
  | a :: l, b :: m, c :: n, 0, x, y, z, h1, h2, h3 => by simp at h1 h2 h3; subst h1 h2 h3; rfl
  | a :: l, b :: m, c :: n, i + 1, x, y, z, h1, h2, h3 => by simpa [xor3] using xor3_get l m n i x y z (by simpa using h1) (by simpa using h2) (by simpa using h3)

/-! ### A frame cut short, or with a bit turned -/
theorem unframe_cut (l : List UInt8) (hl : l.length ≤ 65536) (p : Nat) (hp : p < 8 + l.length) : unframe ((frameL l).take p) = ([], 0, 8) := by
  have hlen : ((frameL l).take p).length = p := by rw [List.length_take, frameL_length]; omega
  unfold unframe
  by_cases h4 : p < 4
  · rw [hlen, if_pos h4]
  · have htw : toWordL ((frameL l).take p) = l.length := by
      unfold frameL
      rw [List.append_assoc, List.take_append, show (word l.length).take p = word l.length from List.take_of_length_le (by rw [word_length]; omega)]
      exact toWord_word (by omega) _
    rw [hlen, htw, if_neg h4, if_neg (by omega), if_pos (by omega)]

/-- The register behind n noughts. -/
def zeros (r : Nat) : Nat → Nat
  | 0 => r
  | n + 1 => zeros (byteStep r 0) n
theorem crcReg_shift : ∀ (l : List UInt8) (x y : Nat), crcReg (x ^^^ y) l = crcReg x l ^^^ zeros y l.length
  | [], x, y => rfl
  | c :: l, x, y => by
    show crcReg (byteStep (x ^^^ y) c.toNat) l = crcReg (byteStep x c.toNat) l ^^^ zeros (byteStep y 0) l.length
    have h := byteStep_xor x y c.toNat 0
    rw [Nat.xor_zero] at h
    rw [h, crcReg_shift l]
theorem bitStep_pos {r : Nat} (h : r < 4294967296) (h0 : r ≠ 0) : bitStep r ≠ 0 := by
  unfold bitStep
  split
  · intro hx
    have h2 : r / 2 ^^^ 2197175160 ^^^ 2197175160 = 0 ^^^ 2197175160 := by rw [hx]
    rw [Nat.xor_assoc, Nat.xor_self, Nat.xor_zero, Nat.zero_xor] at h2
    omega
  · omega
theorem fourSteps_pos {r : Nat} (h : r < 4294967296) (h0 : r ≠ 0) : fourSteps r ≠ 0 :=
  bitStep_pos (bitStep_lt (bitStep_lt (bitStep_lt h))) (bitStep_pos (bitStep_lt (bitStep_lt h)) (bitStep_pos (bitStep_lt h) (bitStep_pos h h0)))
theorem byteStep_pos {r c : Nat} (h : r < 4294967296) (hc : c < 256) (h0 : r ^^^ c ≠ 0) : byteStep r c ≠ 0 :=
  fourSteps_pos (fourSteps_lt (Nat.xor_lt_two_pow (n := 32) h (by omega))) (fourSteps_pos (Nat.xor_lt_two_pow (n := 32) h (by omega)) h0)
theorem zeros_pos : ∀ (n r : Nat), r < 4294967296 → r ≠ 0 → zeros r n ≠ 0
  | 0, r, _, h => h
  | n + 1, r, h, h0 => zeros_pos n _ (byteStep_lt h (by omega)) (byteStep_pos h (by omega) (by rw [Nat.xor_zero]; exact h0))

/-- A byte that is another one turns the sum. -/
theorem crc_turn (p q : List UInt8) (c e : UInt8) (he : e ≠ 0) : crc (p ++ (c ^^^ e) :: q) ≠ crc (p ++ c :: q) := by
  unfold crc
  have h1 : ∀ d : UInt8, crcReg 4294967295 (p ++ d :: q) = crcReg (byteStep (crcReg 4294967295 p) d.toNat) q := fun d => by simp [crcReg]
  rw [h1, h1, UInt8.toNat_xor]
  have h2 := byteStep_xor (crcReg 4294967295 p) 0 c.toNat e.toNat
  rw [Nat.xor_zero] at h2
  rw [h2, crcReg_shift]
  have h3 : e.toNat ≠ 0 := fun h => he (by rw [← of_toNat e, h]; rfl)
  have h4 := zeros_pos q.length (byteStep 0 e.toNat) (byteStep_lt (by omega) e.toNat_lt) (byteStep_pos (by omega) e.toNat_lt (by rw [Nat.zero_xor]; exact h3))
  generalize crcReg (byteStep (crcReg 4294967295 p) c.toNat) q = x
  generalize zeros (byteStep 0 e.toNat) q.length = z at h4
  intro h
  apply h4
  have h5 : x ^^^ (x ^^^ z ^^^ 4294967295 ^^^ 4294967295) = x ^^^ (x ^^^ 4294967295 ^^^ 4294967295) := by rw [h]
  rw [Nat.xor_assoc _ 4294967295, Nat.xor_assoc _ 4294967295, Nat.xor_self, Nat.xor_zero, Nat.xor_zero, ← Nat.xor_assoc, Nat.xor_self, Nat.zero_xor] at h5
  exact h5

theorem set_split {l : List UInt8} {k : Nat} (hk : k < l.length) (c : UInt8) : l.set k c = l.take k ++ c :: l.drop (k + 1) := List.set_eq_take_append_cons_drop.trans (if_pos hk)

theorem unframe_turn (l : List UInt8) (hl : l.length ≤ 65536) (k : Nat) (h4 : 4 ≤ k) (hk : k < 8 + l.length) (c e : UInt8) (hc : (frameL l)[k]? = some c) (he : e ≠ 0) :
    unframe ((frameL l).set k (c ^^^ e)) = ([], 0, 9) := by
  have hflen := frameL_length l
  have hce : c ^^^ e ≠ c := by
    intro h
    apply he
    have : c ^^^ (c ^^^ e) = c ^^^ c := by rw [h]
    rw [← UInt8.xor_assoc, UInt8.xor_self, UInt8.zero_xor] at this
    exact this
  have hlen : ((frameL l).set k (c ^^^ e)).length = 8 + l.length := by rw [List.length_set, hflen]
  have ht4 : ((frameL l).set k (c ^^^ e)).take 4 = word l.length := by
    rw [List.take_set_of_le h4]; unfold frameL; rw [List.append_assoc]; rfl
  have htw : toWordL ((frameL l).set k (c ^^^ e)) = l.length := by
    have h1 : ((frameL l).set k (c ^^^ e)) = word l.length ++ ((frameL l).set k (c ^^^ e)).drop 4 := by rw [← ht4, List.take_append_drop]
    rw [h1]; exact toWord_word (by omega) _
  unfold unframe
  rw [hlen, htw, ht4, if_neg (by omega), if_neg (by omega), if_neg (by omega), if_pos ?_]
  -- the sum
  by_cases h8 : k < 8
  · have hd8 : ((frameL l).set k (c ^^^ e)).drop 8 = l := by
      rw [List.drop_set_of_lt h8]; unfold frameL; rw [List.append_assoc]; rfl
    rw [hd8, List.take_length]
    intro h
    have hw := word_toWord (l := ((frameL l).set k (c ^^^ e)).drop 4) (by rw [List.length_drop, hlen]; omega)
    rw [← h] at hw
    have hw0 : word (crc (word l.length ++ l)) = ((frameL l).drop 4).take 4 := by unfold frameL; rw [List.append_assoc]; rfl
    rw [hw0] at hw
    have hg := congrArg (fun m => m[k - 4]?) hw
    rw [List.getElem?_take_of_lt (by omega), List.getElem?_take_of_lt (by omega), List.getElem?_drop, List.getElem?_drop, show 4 + (k - 4) = k by omega, hc, List.getElem?_set_self (by omega)] at hg
    exact hce (Option.some.inj hg).symm
  · have hd4 : toWordL (((frameL l).set k (c ^^^ e)).drop 4) = crc (word l.length ++ l) := by
      have h1 : (((frameL l).set k (c ^^^ e)).drop 4).take 4 = word (crc (word l.length ++ l)) := by
        rw [List.drop_set, if_neg (by omega), List.take_set_of_le (by omega)]; unfold frameL; rw [List.append_assoc]; rfl
      have h2 : ((frameL l).set k (c ^^^ e)).drop 4 = word (crc (word l.length ++ l)) ++ (((frameL l).set k (c ^^^ e)).drop 4).drop 4 := by rw [← h1, List.take_append_drop]
      rw [h2]; exact toWord_word (crc_lt _) _
    have hd8 : ((frameL l).set k (c ^^^ e)).drop 8 = l.set (k - 8) (c ^^^ e) := by
      rw [List.drop_set, if_neg (by omega)]; unfold frameL; rw [List.append_assoc]; rfl
    have hcl : l[k - 8]? = some c := by
      rw [← hc]; unfold frameL
      rw [List.getElem?_append_right (by rw [List.length_append, word_length, word_length]; omega), List.length_append, word_length, word_length]
    have hkl : k - 8 < l.length := by omega
    rw [hd4, hd8, show (l.set (k - 8) (c ^^^ e)).take l.length = l.set (k - 8) (c ^^^ e) from List.take_of_length_le (by rw [List.length_set]; exact Nat.le_refl _), set_split hkl]
    have hlc : l = l.take (k - 8) ++ c :: l.drop (k - 8 + 1) := by
      rw [List.getElem?_eq_getElem hkl] at hcl
      rw [← Option.some.inj hcl, ← List.drop_eq_getElem_cons hkl, List.take_append_drop]
    have := crc_turn (word l.length ++ l.take (k - 8)) (l.drop (k - 8 + 1)) c e he
    rw [List.append_assoc, List.append_assoc, ← hlc] at this
    exact this
end Go.Proofs.YtpcafkinpkepcaaGreatDoor

