import Derived.Lib.BitFns
import Derived.Laws.BitsAllLaws
import Derived.RowKit
/-
  Wq3: NumMath, in one text.
-/
/-
  THE PLAIN MATHEMATICS OF LAYER 1 (codec): numbers in groups of seven bits, the most significant one first: written ('enc'), and read by the program's rule ('toInt') and by the document's ('toIntR'): both read just what was written.
-/
namespace Go.Proofs.YtpcafkinpkepcaaGreatDoor
open Go.RowKit

/-- What an int is turned into. -/
def nat64 (n : Int) : Nat := if 0 ≤ n then (2 * n).toNat else (-2 * n - 1).toNat
def unz (v : Nat) : Int := if v % 2 = 1 then -((v / 2 : Nat) : Int) - 1 else ((v / 2 : Nat) : Int)

theorem nat64_lt {n : Int} (h0 : -9223372036854775808 ≤ n) (h1 : n ≤ 9223372036854775807) : nat64 n < 18446744073709551616 := by
  unfold nat64; split <;> omega
theorem unz_nat64 (n : Int) : unz (nat64 n) = n := by
  unfold unz nat64
  by_cases h : 0 ≤ n
  · rw [if_pos h, if_neg (by omega)]; omega
  · rw [if_neg h, if_pos (by omega)]; omega
theorem nat64_unz (v : Nat) : nat64 (unz v) = v := by
  unfold nat64 unz
  by_cases h : v % 2 = 1
  · rw [if_pos h, if_neg (by omega)]; omega
  · rw [if_neg h, if_pos (by omega)]; omega
theorem unz_lo {v : Nat} (h : v < 18446744073709551616) : -9223372036854775808 ≤ unz v ∧ unz v ≤ 9223372036854775807 := by
  unfold unz; split <;> omega

/-- The groups of a number but the last, each with 128 added. -/
def encC (v : Nat) : List UInt8 := if v = 0 then [] else encC (v / 128) ++ [UInt8.ofNat (128 + v % 128)]
termination_by v
decreasing_by omega
def enc (v : Nat) : List UInt8 := encC (v / 128) ++ [UInt8.ofNat (v % 128)]
def encs (l : List Int) : List UInt8 := l.flatMap fun n => enc (nat64 n)

theorem encC_zero : encC 0 = [] := by rw [encC]; rfl
theorem encC_pos {v : Nat} (h : v ≠ 0) : encC v = encC (v / 128) ++ [UInt8.ofNat (128 + v % 128)] := by rw [encC, if_neg h]
theorem encC_length (k : Nat) : ∀ v, v < 128 ^ k → (encC v).length ≤ k := by
  induction k with
  | zero => intro v h; rw [Nat.pow_zero] at h; rw [show v = 0 by omega, encC_zero]; exact Nat.le_refl _
  | succ k ih =>
    intro v h
    by_cases h0 : v = 0
    · rw [h0, encC_zero]; exact Nat.zero_le _
    · rw [encC_pos h0, List.length_append, List.length_singleton]
      have := ih (v / 128) (by rw [Nat.pow_succ] at h; omega)
      omega
theorem enc_length {v : Nat} (h : v < 18446744073709551616) : (enc v).length ≤ 10 := by
  have := encC_length 9 (v / 128) (by omega)
  rw [enc, List.length_append, List.length_singleton]; omega
theorem enc_pos (v : Nat) : 0 < (enc v).length := by rw [enc, List.length_append, List.length_singleton]; omega

theorem ofNat_toNat {n : Nat} (h : n < 256) : (UInt8.ofNat n).toNat = n := by
  rw [UInt8.toNat_ofNat']; exact Nat.mod_eq_of_lt h
theorem of_toNat (c : UInt8) : UInt8.ofNat c.toNat = c := UInt8.ofNat_toNat

/-- The program's reader. -/
def toIntI : Nat → List UInt8 → Option (Nat × List UInt8)
  | _, [] => none
  | u, c :: r => if 144115188075855871 < u then none else if c.toNat < 128 then some (u * 128 + c.toNat % 128, r) else toIntI (u * 128 + c.toNat % 128) r
def toInt (l : List UInt8) : Option (Nat × List UInt8) := if l.head? = some 128 then none else toIntI 0 l
/-- The document's. -/
def toIntR (p : List UInt8) (v : Nat) : List UInt8 → Option (Nat × List UInt8)
  | [] => none
  | c :: r => if p.length < 10 then
      (if c.toNat < 128 then (if enc ((128 * v + c.toNat % 128) % 18446744073709551616) = p ++ [c] then some ((128 * v + c.toNat % 128) % 18446744073709551616, r) else none)
       else toIntR (p ++ [c]) ((128 * v + c.toNat % 128) % 18446744073709551616) r)
    else none

theorem toIntI_sound : ∀ (l : List UInt8) (u v : Nat) (r : List UInt8), (u ≠ 0 ∨ l.head? ≠ some 128) → toIntI u l = some (v, r) → v < 18446744073709551616 ∧ encC u ++ l = enc v ++ r := by
  intro l
  induction l with
  | nil => intro u v r _ h; cases h
  | cons c l ih =>
    intro u v r hu h
    have hc := c.toNat_lt
    rw [toIntI] at h
    split at h
    · cases h
    · split at h
      · rename_i h1 h2
        cases h
        refine ⟨by omega, ?_⟩
        rw [enc, show (u * 128 + c.toNat % 128) / 128 = u by omega, show (u * 128 + c.toNat % 128) % 128 = c.toNat by omega, of_toNat, List.append_assoc]; rfl
      · rename_i h1 h2
        have hne : u * 128 + c.toNat % 128 ≠ 0 := by
          rcases hu with hu | hu
          · omega
          · have : c ≠ 128 := fun e => hu (by rw [e]; rfl)
            have : c.toNat ≠ 128 := fun e => this (by rw [← of_toNat c, e]; rfl)
            omega
        have := ih _ v r (.inl hne) h
        refine ⟨this.1, ?_⟩
        rw [← this.2, encC_pos hne, show (u * 128 + c.toNat % 128) / 128 = u by omega, show 128 + (u * 128 + c.toNat % 128) % 128 = c.toNat by omega, of_toNat, List.append_assoc]; rfl

theorem toIntI_through : ∀ (w : Nat) (t : List UInt8), w < 18446744073709551616 → toIntI 0 (encC w ++ t) = toIntI w t := by
  intro w
  induction w using Nat.strongRecOn with
  | ind w ih =>
    intro t hw
    by_cases h0 : w = 0
    · rw [h0, encC_zero]; rfl
    · rw [encC_pos h0, List.append_assoc, ih (w / 128) (by omega) _ (by omega), List.singleton_append, toIntI, if_neg (by omega), ofNat_toNat (by omega), if_neg (by omega)]
      congr 1; omega

theorem head_encC : ∀ (w : Nat), w ≠ 0 → ∀ t, (encC w ++ t).head? ≠ some 128 := by
  intro w
  induction w using Nat.strongRecOn with
  | ind w ih =>
    intro h0 t
    rw [encC_pos h0, List.append_assoc]
    by_cases h1 : w / 128 = 0
    · rw [h1, encC_zero, List.nil_append, List.singleton_append, List.head?_cons]
      intro h
      have := congrArg UInt8.toNat (Option.some.inj h)
      rw [ofNat_toNat (by omega)] at this
      have h128 : (128 : UInt8).toNat = 128 := rfl
      omega
    · exact ih (w / 128) (by omega) h1 _

theorem head_enc (v : Nat) (r : List UInt8) : (enc v ++ r).head? ≠ some 128 := by
  rw [enc, List.append_assoc]
  by_cases h : v / 128 = 0
  · rw [h, encC_zero, List.nil_append, List.singleton_append, List.head?_cons]
    intro h
    have := congrArg UInt8.toNat (Option.some.inj h)
    rw [ofNat_toNat (by omega)] at this
    have h128 : (128 : UInt8).toNat = 128 := rfl
    omega
  · exact head_encC _ h _

theorem toInt_enc {v : Nat} (h : v < 18446744073709551616) (r : List UInt8) : toInt (enc v ++ r) = some (v, r) := by
  rw [toInt, if_neg (head_enc v r), enc, List.append_assoc, toIntI_through _ _ (by omega), List.singleton_append, toIntI, if_neg (by omega), ofNat_toNat (by omega), if_pos (by omega)]
  congr 2; omega
theorem toInt_sound {l : List UInt8} {v : Nat} {r : List UInt8} (h : toInt l = some (v, r)) : v < 18446744073709551616 ∧ l = enc v ++ r := by
  unfold toInt at h
  split at h
  · cases h
  · rename_i hh
    have := toIntI_sound l 0 v r (.inr hh) h
    rw [encC_zero] at this
    exact this

theorem toIntR_sound : ∀ (l p : List UInt8) (u v : Nat) (r : List UInt8), toIntR p u l = some (v, r) → v < 18446744073709551616 ∧ p ++ l = enc v ++ r := by
  intro l
  induction l with
  | nil => intro p u v r h; cases h
  | cons c l ih =>
    intro p u v r h
    rw [toIntR] at h
    split at h
    · split at h
      · split at h
        · rename_i h1 h2 h3
          cases h
          exact ⟨by omega, by rw [h3, List.append_assoc]; rfl⟩
        · cases h
      · have := ih _ _ v r h
        exact ⟨this.1, by rw [← this.2, List.append_assoc]; rfl⟩
    · cases h

theorem toIntR_through : ∀ (w : Nat) (t : List UInt8), w < 144115188075855872 → toIntR [] 0 (encC w ++ t) = toIntR (encC w) w t := by
  intro w
  induction w using Nat.strongRecOn with
  | ind w ih =>
    intro t hw
    by_cases h0 : w = 0
    · rw [h0, encC_zero]; rfl
    · have hl := encC_length 9 (w / 128) (by omega)
      rw [encC_pos h0, List.append_assoc, ih (w / 128) (by omega) _ (by omega), List.singleton_append, toIntR, if_pos (by omega), ofNat_toNat (by omega), if_neg (by omega)]
      congr 1; omega

theorem toIntR_enc {v : Nat} (h : v < 18446744073709551616) (r : List UInt8) : toIntR [] 0 (enc v ++ r) = some (v, r) := by
  have hl := encC_length 9 (v / 128) (by omega)
  rw [enc, List.append_assoc, toIntR_through _ _ (by omega), List.singleton_append, toIntR, if_pos (by omega), ofNat_toNat (by omega), if_pos (by omega),
    show (128 * (v / 128) + v % 128 % 128) % 18446744073709551616 = v by omega, if_pos (by rw [enc])]

/-- Both readers are one. -/
theorem toIntR_eq (l : List UInt8) : toIntR [] 0 l = toInt l := by
  cases h : toInt l with
  | some x =>
    obtain ⟨v, r⟩ := x
    obtain ⟨hv, rfl⟩ := toInt_sound h
    exact toIntR_enc hv r
  | none =>
    cases k : toIntR [] 0 l with
    | none => rfl
    | some x =>
      obtain ⟨v, r⟩ := x
      obtain ⟨hv, hl⟩ := toIntR_sound l [] 0 v r k
      rw [List.nil_append] at hl
      rw [hl, toInt_enc hv] at h
      cases h

/-! ### bits -/
theorem xor_ones {x : Nat} (n : Nat) (h : x < 2 ^ n) : x ^^^ (2 ^ n - 1) = 2 ^ n - 1 - x := by
  apply Nat.eq_of_testBit_eq
  intro i
  rw [show 2 ^ n - 1 - x = 2 ^ n - (x + 1) by omega, Nat.testBit_two_pow_sub_succ h, Nat.testBit_xor, Nat.testBit_two_pow_sub_one]
  by_cases hi : i < n
  · simp [hi]
  · have h2 : x < 2 ^ i := Nat.lt_of_lt_of_le h (Nat.pow_le_pow_right (by omega) (by omega))
    simp [hi, Nat.testBit_lt_two_pow h2]

theorem zig_bits {n : Int} (h0 : -9223372036854775808 ≤ n) (h1 : n ≤ 9223372036854775807) :
    bits .xor .u64 (IntKind.u64.wrap (IntKind.u64.wrap n * 2)) (IntKind.u64.wrap (n / 9223372036854775808)) = (nat64 n : Int) := by
  have e : ∀ m : Int, IntKind.u64.wrap m = m % 18446744073709551616 := fun m => by simp [IntKind.wrap, IntKind.bits, IntKind.signed]
  simp only [e]
  by_cases h : 0 ≤ n
  · obtain ⟨m, rfl⟩ := Int.eq_ofNat_of_zero_le h
    rw [show (m : Int) / 9223372036854775808 = 0 by omega, show (m : Int) % 18446744073709551616 * 2 % 18446744073709551616 = ((2 * m : Nat) : Int) by omega]
    have := u64_xor_nat (2 * m) 0 (by omega) (by omega)
    rw [Nat.xor_zero] at this
    rw [show (0 : Int) % 18446744073709551616 = ((0 : Nat) : Int) from rfl, this]
    unfold nat64; rw [if_pos h]; omega
  · rw [show n / 9223372036854775808 = -1 by omega, show n % 18446744073709551616 * 2 % 18446744073709551616 = (((2 * n + 18446744073709551616).toNat : Nat) : Int) by omega,
      show (-1 : Int) % 18446744073709551616 = ((18446744073709551615 : Nat) : Int) from rfl, u64_xor_nat _ _ (by omega) (by omega)]
    have hx := xor_ones (x := (2 * n + 18446744073709551616).toNat) 64 (by omega)
    rw [show 2 ^ 64 - 1 = 18446744073709551615 from rfl] at hx
    rw [hx]
    unfold nat64; rw [if_neg h]; omega

theorem unz_bits {v : Nat} (h : v < 18446744073709551616) :
    bits .xor .i64 ((v : Int) / 2) (wrap64 (-wrap64 (bits .and .u64 (v : Int) 1))) = unz v := by
  have ha : bits .and .u64 (v : Int) 1 = ((v % 2 : Nat) : Int) := by
    have := u64_and_nat v 1 h (by omega)
    rw [nat_mask1] at this
    exact this
  rw [ha]
  have hv : ((v : Int) / 2) = ((v / 2 : Nat) : Int) := by omega
  rw [hv]
  unfold unz
  rcases Nat.mod_two_eq_zero_or_one v with h2 | h2
  · rw [h2, if_neg (by omega)]
    have : wrap64 (-wrap64 ((0 : Nat) : Int)) = 0 := by simp [wrap64]
    rw [this]
    show IntKind.i64.wrap ((BitVec.ofInt 64 ((v / 2 : Nat) : Int) ^^^ BitVec.ofInt 64 0).toNat : Int) = _
    rw [show BitVec.ofInt 64 0 = 0#64 from rfl, BitVec.xor_zero, ofInt_u64 _ (by omega)]
    simp [IntKind.wrap, IntKind.bits, IntKind.signed]
    omega
  · rw [h2, if_pos rfl]
    have : wrap64 (-wrap64 ((1 : Nat) : Int)) = -1 := by simp [wrap64]
    rw [this]
    show IntKind.i64.wrap ((BitVec.ofInt 64 ((v / 2 : Nat) : Int) ^^^ BitVec.ofInt 64 (-1)).toNat : Int) = _
    have h1 : BitVec.ofInt 64 (-1) = BitVec.allOnes 64 := by decide
    rw [h1, BitVec.xor_allOnes, BitVec.toNat_not, ofInt_u64 _ (by omega)]
    simp [IntKind.wrap, IntKind.bits, IntKind.signed]
    omega

/-! ### How many groups -/
theorem bitLenAux_bounds : ∀ (f x : Nat), x ≠ 0 → x < 2 ^ f → 2 ^ (Lib.bitLenAux f x - 1) ≤ x ∧ x < 2 ^ Lib.bitLenAux f x ∧ 1 ≤ Lib.bitLenAux f x := by
  intro f
  induction f with
  | zero => intro x h0 h; simp at h; omega
  | succ f ih =>
    intro x h0 h
    rw [Lib.bitLenAux, if_neg h0]
    by_cases h1 : x / 2 = 0
    · have hz : Lib.bitLenAux f (x / 2) = 0 := by
        rw [h1]; cases f <;> simp [Lib.bitLenAux]
      rw [hz]; simp; omega
    · obtain ⟨i1, i2, i3⟩ := ih (x / 2) h1 (by rw [Nat.pow_succ] at h; omega)
      generalize Lib.bitLenAux f (x / 2) = n at *
      obtain ⟨m, rfl⟩ : ∃ m, n = m + 1 := ⟨n - 1, by omega⟩
      rw [show 1 + (m + 1) - 1 = m + 1 by omega, show 1 + (m + 1) = (m + 1) + 1 by omega, Nat.pow_succ 2 (m + 1), Nat.pow_succ 2 m] at *
      rw [show m + 1 - 1 = m by omega] at i1
      omega

/-- How many groups stand ahead of the last one. -/
def lastG (u : Nat) : Nat := (Lib.bitLen (u ||| 1) - 1) / 7

theorem or_one (u : Nat) : u ||| 1 = u ∧ u % 2 = 1 ∨ u ||| 1 = u + 1 ∧ u % 2 = 0 := by
  have h2 := Nat.or_div_two_pow (a := u) (b := 1) (n := 1)
  have h1 := Nat.or_mod_two_pow (a := u) (b := 1) (n := 1)
  rw [show 2 ^ 1 = 2 from rfl] at h1 h2
  rw [show 1 / 2 = 0 from rfl, Nat.or_zero] at h2
  rcases Nat.mod_two_eq_zero_or_one u with h | h
  · have h1' : (u ||| 1) % 2 = 1 := h1.trans (by rw [h]; rfl)
    omega
  · have h1' : (u ||| 1) % 2 = 1 := h1.trans (by rw [h]; rfl)
    omega

theorem lastG_spec {u : Nat} (h : u < 18446744073709551616) : lastG u ≤ 9 ∧ u / 128 ^ (lastG u + 1) = 0 ∧ ∀ j, 1 ≤ j → j ≤ lastG u → u / 128 ^ j ≠ 0 := by
  have ho := or_one u
  have hm : u ||| 1 ≠ 0 ∧ u ||| 1 < 18446744073709551616 := by omega
  obtain ⟨b1, b2, b3⟩ := bitLenAux_bounds 64 (u ||| 1) hm.1 (by rw [show 2 ^ 64 = 18446744073709551616 from rfl]; exact hm.2)
  have hL : lastG u = (Lib.bitLenAux 64 (u ||| 1) - 1) / 7 := rfl
  rw [hL]
  have hle : Lib.bitLenAux 64 (u ||| 1) ≤ 64 := by
    rcases Nat.lt_or_ge 64 (Lib.bitLenAux 64 (u ||| 1)) with h' | h'
    · exfalso
      have := Nat.pow_le_pow_right (show 0 < 2 by omega) (show 64 ≤ Lib.bitLenAux 64 (u ||| 1) - 1 by omega)
      rw [show 2 ^ 64 = 18446744073709551616 from rfl] at this
      omega
    · exact h'
  generalize Lib.bitLenAux 64 (u ||| 1) = n at *
  refine ⟨by omega, ?_, ?_⟩
  · rw [show 128 = 2 ^ 7 from rfl, ← Nat.pow_mul]
    apply Nat.div_eq_of_lt
    refine Nat.lt_of_lt_of_le ?_ (Nat.pow_le_pow_right (by omega) (show n ≤ 7 * ((n - 1) / 7 + 1) by omega))
    omega
  · intro j hj1 hj2 hz
    have h3 : u < 128 ^ j := by
      rcases Nat.lt_or_ge u (128 ^ j) with h' | h'
      · exact h'
      · have := Nat.div_pos h' (Nat.pow_pos (by omega)); omega
    have h4 : 128 ^ j ≤ 2 ^ (n - 1) := by
      rw [show 128 = 2 ^ 7 from rfl, ← Nat.pow_mul]
      exact Nat.pow_le_pow_right (by omega) (by omega)
    have h5 : 128 ^ j % 2 = 0 := by
      obtain ⟨i, rfl⟩ : ∃ i, j = i + 1 := ⟨j - 1, by omega⟩
      rw [Nat.pow_succ]; omega
    omega

/-- One group ahead of the last one. -/
theorem encC_step {u j : Nat} (h : u / 128 ^ j ≠ 0) : encC (u / 128 ^ j) = encC (u / 128 ^ (j + 1)) ++ [UInt8.ofNat (128 + u / 128 ^ j % 128)] := by
  rw [encC_pos h, Nat.div_div_eq_div_mul, ← Nat.pow_succ]

end Go.Proofs.YtpcafkinpkepcaaGreatDoor

