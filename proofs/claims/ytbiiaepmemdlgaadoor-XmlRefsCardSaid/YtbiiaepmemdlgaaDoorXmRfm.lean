/-
  LAYER 11 (xml), PLAIN MATHEMATICS: a number's digits read back; the bytes of a character and its number.
-/
import Derived.Test.YtbiiaepmemdlgaaDoorXmMath3
namespace Go.Proofs.YtbiiaepmemdlgaaDoor
set_option linter.unusedVariables false
set_option maxRecDepth 100000

def digC (n : Nat) : UInt8 := (if n < 10 then 48 + n else 87 + n).toUInt8
def numS (b n : Nat) : List UInt8 := if h : b ≤ n ∧ 2 ≤ b then numS b (n / b) ++ [digC (n % b)] else [digC n]
termination_by n
decreasing_by exact Nat.div_lt_self (by omega) (by omega)
theorem numS_small {b n : Nat} (h : n < b) : numS b n = [digC n] := by
  rw [numS, dif_neg (by omega)]
theorem numS_big {b n : Nat} (h : b ≤ n) (hb : 2 ≤ b) : numS b n = numS b (n / b) ++ [digC (n % b)] := by
  rw [numS, dif_pos ⟨h, hb⟩]
theorem digC_six : ∀ n, n < 16 → sixX (digC n) = some n ∧ digC n ≠ 59 := by decide
theorem digC_ten : ∀ n, n < 10 → digC n ≠ 120 := by decide
theorem numS_fold {b : Nat} (hb : 2 ≤ b) (hb2 : b ≤ 16) (n : Nat) : (numS b n).foldl (digitX b) (some 0) = some n := by
  induction n using Nat.strongRecOn with
  | _ n ih =>
    rcases Nat.lt_or_ge n b with h | h
    · rw [numS_small h]
      simp [digitX, (digC_six n (by omega)).1, h]
    · have hlt : n / b < n := Nat.div_lt_self (by omega) (by omega)
      have hm : n % b < b := Nat.mod_lt _ (by omega)
      rw [numS_big h hb, List.foldl_append, ih _ hlt]
      simp [digitX, (digC_six (n % b) (by omega)).1, hm, Nat.div_add_mod]
theorem numS_ne (b n : Nat) : numS b n ≠ [] := by
  rw [numS]
  split <;> simp
theorem numS_digs {b : Nat} (hb : 2 ≤ b) (hb2 : b ≤ 16) (n : Nat) : digsX b (numS b n) = some n := by
  unfold digsX
  rw [if_neg (numS_ne b n), numS_fold hb hb2]
theorem numS_len {b : Nat} (hb : 2 ≤ b) : ∀ (k n : Nat), n < b ^ (k + 1) → (numS b n).length ≤ k + 1
  | 0, n, h => by rw [numS_small (by simpa using h)]; simp
  | k + 1, n, h => by
    rcases Nat.lt_or_ge n b with h1 | h1
    · rw [numS_small h1]; simp
    · rw [numS_big h1 hb, List.length_append]
      have : n / b < b ^ (k + 1) := by
        rw [Nat.div_lt_iff_lt_mul (by omega), ← Nat.pow_succ]; exact h
      have := numS_len hb k (n / b) this
      simp
      omega
theorem numS_mem {b : Nat} (hb : 2 ≤ b) (hb2 : b ≤ 16) (n : Nat) : (59 : UInt8) ∉ numS b n := by
  induction n using Nat.strongRecOn with
  | _ n ih =>
    rcases Nat.lt_or_ge n b with h | h
    · rw [numS_small h]
      simp
      exact fun e => (digC_six n (by omega)).2 e.symm
    · have hlt : n / b < n := Nat.div_lt_self (by omega) (by omega)
      have hm : n % b < b := Nat.mod_lt _ (by omega)
      rw [numS_big h hb]
      simp
      exact ⟨ih _ hlt, fun e => (digC_six (n % b) (by omega)).2 e.symm⟩
theorem numS_head (n : Nat) : ∃ c r, numS 10 n = c :: r ∧ c ≠ 120 := by
  induction n using Nat.strongRecOn with
  | _ n ih =>
    rcases Nat.lt_or_ge n 10 with h | h
    · exact ⟨_, _, numS_small h, digC_ten n h⟩
    · obtain ⟨c, r, e, hc⟩ := ih (n / 10) (Nat.div_lt_self (by omega) (by omega))
      exact ⟨c, r ++ [digC (n % 10)], by rw [numS_big h (by omega), e]; rfl, hc⟩
theorem numbX_ten (n : Nat) : numbX (numS 10 n) = charX 10 7 (numS 10 n) := by
  obtain ⟨c, r, e, hc⟩ := numS_head n
  rw [e]
  unfold numbX
  split
  · rename_i h e2; exact absurd (List.cons.inj e2).1 hc
  · rfl
theorem charX_num {b m n : Nat} (hb : 2 ≤ b) (hb2 : b ≤ 16) (hn : n < b ^ m) (hm : 1 ≤ m) : charX b m (numS b n) = if runeX n then some (utfX n) else none := by
  obtain ⟨k, rfl⟩ : ∃ k, m = k + 1 := ⟨m - 1, by omega⟩
  have := numS_len hb k n hn
  unfold charX
  rw [if_neg (by omega), numS_digs hb hb2]
  rfl
theorem utfX_ne (n : Nat) : utfX n ≠ [] := by
  unfold utfX
  split
  · simp
  · split
    · simp
    · split <;> simp
theorem den_num (d : List UInt8) : denX (35 :: d) = numbX d := by
  unfold denX
  rw [if_neg (by simp), if_neg (by simp), if_neg (by simp), if_neg (by simp), if_neg (by simp)]
  rfl
/-- What is read of one reference. -/
def numR : Option (List UInt8) → Option (List TkX) × Nat
  | some t => (some [wordsT t], 0)
  | none => (none, 0)
theorem read_num (d : List UInt8) (h59 : (59 : UInt8) ∉ d) (o : Option (List UInt8)) (ho : numbX d = o) (hne : ∀ t, o = some t → t ≠ []) : readX ([38, 35] ++ d ++ [59]) = numR o := by
  have e : [38, 35] ++ d ++ [59] = 38 :: ((35 :: d) ++ 59 :: []) := by simp
  have hp : partX (38 :: ((35 :: d) ++ 59 :: [])) = o.map fun t => (.txt t, []) := by
    rw [partX_ref]
    unfold refX
    rw [upTo_put [] (by simpa using h59)]
    simp only [Option.bind_some]
    rw [den_num, ho]
    cases o <;> rfl
  rw [e]
  unfold readX
  cases o with
  | none => rw [partsX_bad (by simp) hp]; simp [numR]
  | some t =>
    rw [partsX_some hp, partsX_nil]
    simp [tokX, endW, hne t rfl, numR]
theorem read_dec (n : Nat) (hn : n ≤ 9999999) : readX ([38, 35] ++ numS 10 n ++ [59]) = if runeX n then (some [wordsT (utfX n)], 0) else (none, 0) := by
  rw [read_num _ (numS_mem (by omega) (by omega) n) _ ((numbX_ten n).trans (charX_num (by omega) (by omega) (by omega) (by omega))) (fun t ht => by
    split at ht
    · cases ht; exact utfX_ne n
    · cases ht)]
  split <;> rfl
theorem read_hex (n : Nat) (hn : n ≤ 9999999) : readX ([38, 35, 120] ++ numS 16 n ++ [59]) = if runeX n then (some [wordsT (utfX n)], 0) else (none, 0) := by
  have e : [38, 35, 120] ++ numS 16 n ++ [59] = [38, 35] ++ (120 :: numS 16 n) ++ [59] := by simp
  rw [e, read_num _ (by simp; exact numS_mem (by omega) (by omega) n) _ (show numbX (120 :: numS 16 n) = _ from charX_num (b := 16) (m := 6) (by omega) (by omega) (by omega) (by omega)) (fun t ht => by
    split at ht
    · cases ht; exact utfX_ne n
    · cases ht)]
  split <;> rfl
/-- The first byte's share, then six bits for each. -/
def firstV (c : Nat) : Int := if c < 128 then c else if c < 224 then (c : Int) - 192 else if c < 240 then (c : Int) - 224 else (c : Int) - 240
def bytV : List UInt8 → Int
  | [] => 0
  | c :: r => r.foldl (fun v c => 64 * v + ((c.toNat % 64 : Nat) : Int)) (firstV c.toNat)
theorem u8n {n : Nat} (h : n < 256) : n.toUInt8.toNat = n := by simp; omega
theorem bytV_utf (n : Nat) (h : n ≤ 0x10FFFF) : bytV (utfX n) = n := by
  unfold utfX
  split
  · simp only [bytV, List.foldl_nil, firstV]
    rw [u8n (by omega), if_pos (by omega)]
  · split
    · simp only [bytV, List.foldl_nil, List.foldl_cons, firstV]
      rw [u8n (by omega), u8n (by omega), if_neg (by omega), if_pos (by omega)]
      omega
    · split
      · simp only [bytV, List.foldl_nil, List.foldl_cons, firstV]
        rw [u8n (by omega), u8n (by omega), u8n (by omega), if_neg (by omega), if_neg (by omega), if_pos (by omega)]
        omega
      · simp only [bytV, List.foldl_nil, List.foldl_cons, firstV]
        rw [u8n (by omega), u8n (by omega), u8n (by omega), u8n (by omega), if_neg (by omega), if_neg (by omega), if_neg (by omega)]
        omega
theorem utfX_sz (n : Nat) : 1 ≤ (utfX n).length ∧ (utfX n).length ≤ 4 ∧ ((utfX n).length = 1 ↔ n < 128) := by
  unfold utfX
  split
  · simp; omega
  · split
    · simp; omega
    · split <;> (simp; omega)
end Go.Proofs.YtbiiaepmemdlgaaDoor
