import Derived.Test.YtjoeamlidmmioaaGreatDoorXmR1J
/-
  LAYER 11 (xml), THE DOCUMENT's: names, blanks, where a text stands in another one, up to where.
-/
namespace Go.Proofs.YtjoeamlidmmioaaGreatDoor
open Go.RowKit
set_option linter.unusedVariables false
set_option maxRecDepth 100000

/-! ### where a text stands -/
def fndI (t a : List UInt8) (k : Nat) : Int := match upTo t (a.drop k) with | some x => ((k + x.1.length : Nat) : Int) | none => -1
theorem upTo_short {t : List UInt8} : ∀ {l : List UInt8}, l.length < t.length → upTo t l = none
  | [], _ => rfl
  | c :: r, h => by
    unfold upTo
    have : t.isPrefixOf (c :: r) = false := by
      rw [Bool.eq_false_iff]
      intro e
      have := (List.isPrefixOf_iff_prefix.1 e).length_le
      omega
    rw [if_neg (by rw [this]; simp), upTo_short (by simp at h; omega)]
    rfl
theorem fnd_end {t a : List UInt8} {k : Nat} (h : a.length < k + t.length) : fndI t a k = -1 := by
  unfold fndI
  rcases Nat.lt_or_ge a.length k with hk | hk
  · rw [List.drop_eq_nil_of_le (by omega)]; rfl
  · rw [upTo_short (by rw [List.length_drop]; omega)]
theorem fnd_here {t a : List UInt8} {k : Nat} (ht : t ≠ []) (h : k + t.length ≤ a.length) (hp : (a.drop k).take t.length = t) : fndI t a k = (k : Nat) := by
  have h0 : t.length ≠ 0 := by simpa using ht
  have hd : a.drop k = a[k]'(by omega) :: a.drop (k + 1) := List.drop_eq_getElem_cons (by omega)
  unfold fndI
  rw [hd]
  unfold upTo
  rw [← hd, if_pos (by rw [prefix_take, hp]; simp)]
  simp
theorem fnd_next {t a : List UInt8} {k : Nat} (h : k < a.length) (hp : ¬ (a.drop k).take t.length = t) : fndI t a k = fndI t a (k + 1) := by
  have hd : a.drop k = a[k] :: a.drop (k + 1) := List.drop_eq_getElem_cons h
  unfold fndI
  rw [hd]
  rw [show upTo t (a[k] :: a.drop (k + 1)) = if t.isPrefixOf (a[k] :: a.drop (k + 1)) then some ([], (a[k] :: a.drop (k + 1)).drop t.length) else (upTo t (a.drop (k + 1))).map fun x => (a[k] :: x.1, x.2) from by rw [upTo]]
  rw [← hd, if_neg (by rw [prefix_take]; simpa using hp)]
  cases upTo t (a.drop (k + 1)) with
  | none => rfl
  | some x => simp; omega
set_option maxHeartbeats 4000000 in
theorem find_any (a : List UInt8) (ha : a.length ≤ 1000000) (k : Nat) (hk : k ≤ a.length) (q : Int) (hq : q = (k : Nat)) (t : ByteArray) (ht : 0 < t.size) (htl : t.size ≤ 100) (w : World) :
    Calls Tryz.prog 33 #[.string (mk a), .int .i64 q, .string t] w fun e w' => e = .returned (.int .i64 (fndI t.data.toList a k)) ∧ w = w' := by
  subst hq
  have htl2 := str_len t
  have hms : (mk a).size = a.length := mk_size a
  go_enter Tryz.func33, Tryz.ntmps33
  go_wp2
  go_loopw [7] (fun i wr => ∃ j : Nat, j ≤ a.length ∧ i = .int .i64 j ∧ w = wr ∧ Hid (fndI t.data.toList a j = fndI t.data.toList a k)) (fun i _ => a.length - (intOf i).toNat)
  case atStart => exact ⟨k, hk, rfl, rfl, hid rfl⟩
  case round =>
    obtain ⟨j, hj, rfl, rfl, hF⟩ := hrel
    by_cases hlt : j + t.size ≤ a.length
    · have h1 : ((j : Int) + (t.size : Int) ≤ ((mk a).size : Int)) := by omega
      have x1 := fun wx => s_mid (a := a) (i := j) (j := j + t.size) (by omega) hlt (p := (j : Int)) (q := (j : Int) + (t.size : Int)) rfl (by omega) wx
      rw [Nat.add_sub_cancel_left] at x1
      by_cases hp : (a.drop j).take t.size = t.data.toList
      · have q1 : ((mk ((a.drop j).take t.size)).toList == t.toList) = true := by rw [hp, mk_of]; simp
        have HR : Hid (fndI t.data.toList a k = (j : Nat)) := hid (by rw [← hF.out]; exact fnd_here (by intro e; rw [e] at htl2; simp at htl2; omega) (by rw [htl2]; exact hlt) (by rw [htl2]; exact hp))
        clear hF hp
        go_wp2
        go_ret
        exact ⟨by rw [HR.out]; rfl, rfl⟩
      · have q1 : ((mk ((a.drop j).take t.size)).toList == t.toList) = false := by
          rw [Lib.toList_data, Lib.toList_data, mk_data]
          exact beq_eq_false_iff_ne.2 hp
        have HR : Hid (fndI t.data.toList a (j + 1) = fndI t.data.toList a k) := hid (by rw [← hF.out]; exact (fnd_next (by omega) (by rw [htl2]; exact hp)).symm)
        clear hF hp
        go_wp2
        go_roundw
        case rel => exact ⟨j + 1, by omega, by go_num, (by first | trivial | rfl), HR⟩
        case measure => simp [intOf]; omega
    · have h1 : ¬ ((j : Int) + (t.size : Int) ≤ ((mk a).size : Int)) := by omega
      have HR : Hid (fndI t.data.toList a k = -1) := hid (by rw [← hF.out]; exact fnd_end (by rw [htl2]; omega))
      clear hF
      go_wp2
      go_ret
      exact ⟨by rw [HR.out]; rfl, rfl⟩
/-- Up to the end of a text; 0: it is not there. -/
def untI (t a : List UInt8) (k : Nat) : Int := match upTo t (a.drop k) with | some x => ((k + x.1.length + t.length : Nat) : Int) | none => 0
theorem fnd_unt (t a : List UInt8) (k : Nat) : (fndI t a k = -1 ∧ untI t a k = 0) ∨ ∃ n : Nat, fndI t a k = n ∧ untI t a k = ((n + t.length : Nat) : Int) ∧ n + t.length ≤ a.length := by
  unfold fndI untI
  cases h : upTo t (a.drop k) with
  | none => exact .inl ⟨rfl, rfl⟩
  | some x =>
    obtain ⟨y, z⟩ := x
    have := (upTo_lt h).1
    rw [List.length_drop] at this
    refine .inr ⟨k + y.length, rfl, rfl, ?_⟩
    rcases Nat.lt_or_ge a.length k with hk | hk
    · rw [List.drop_eq_nil_of_le (by omega)] at h; simp [upTo] at h
    · omega
set_option maxHeartbeats 4000000 in
theorem until_any (a : List UInt8) (ha : a.length ≤ 1000000) (k : Nat) (hk : k ≤ a.length) (q : Int) (hq : q = (k : Nat)) (t : ByteArray) (ht : 0 < t.size) (htl : t.size ≤ 100) (w : World) :
    Calls Tryz.prog 57 #[.string (mk a), .int .i64 q, .string t] w fun e w' => e = .returned (.int .i64 (untI t.data.toList a k)) ∧ w = w' := by
  subst hq
  have HF := hid (find_any a ha k hk _ rfl t ht htl)
  rcases fnd_unt t.data.toList a k with ⟨h1, h2⟩ | ⟨n, h1, h2, h3⟩
  · rw [h1] at HF
    rw [h2]
    go_enter Tryz.func57, Tryz.ntmps57
    go_wp2_with (go_at_call 33; go_loud ((with_reducible refine (HF.out _).mono ?_); rintro e w1 ⟨rfl, rfl⟩))
    go_ret
    exact ⟨rfl, rfl⟩
  · rw [h1] at HF
    rw [h2]
    rw [str_len] at h3 ⊢
    have h4 : ¬ ((n : Int) < 0) := by omega
    go_enter Tryz.func57, Tryz.ntmps57
    go_wp2_with (go_at_call 33; (with_reducible refine (HF.out _).mono ?_); rintro e w1 ⟨rfl, rfl⟩)
    go_ret
    exact ⟨by congr 2 <;> go_num, rfl⟩
/-! ### blanks -/
def blkN (a : List UInt8) : Nat := (a.takeWhile spcX).length
theorem blkN_le (a : List UInt8) : blkN a ≤ a.length := (List.takeWhile_prefix spcX).length_le
theorem drop_blk (a : List UInt8) : a.drop (blkN a) = a.dropWhile spcX := by
  have h := List.takeWhile_append_dropWhile (p := spcX) (l := a)
  have h2 : (a.takeWhile spcX ++ a.dropWhile spcX).drop (a.takeWhile spcX).length = a.dropWhile spcX := List.drop_left ..
  rw [h] at h2
  exact h2
theorem blk_lt {a : List UInt8} {k : Nat} (h : k < blkN a) : ∃ c, a[k]? = some c ∧ spcX c = true := by
  have h0 := List.takeWhile_append_dropWhile (p := spcX) (l := a)
  have hk : (a.takeWhile spcX ++ a.dropWhile spcX)[k]? = (a.takeWhile spcX)[k]? := List.getElem?_append_left h
  rw [h0] at hk
  have h' : k < (a.takeWhile spcX).length := h
  exact ⟨(a.takeWhile spcX)[k]'h', by rw [hk]; simp [h'], mem_tw (List.getElem_mem h')⟩
theorem blk_at {a : List UInt8} {c : UInt8} (h : a[blkN a]? = some c) : spcX c = false := by
  have h0 : (a.drop (blkN a))[0]? = some c := by rw [List.getElem?_drop]; simpa using h
  rw [drop_blk] at h0
  have := List.head?_dropWhile_not spcX a
  rw [List.head?_eq_getElem?, h0] at this
  simpa using this
set_option maxHeartbeats 4000000 in
theorem blanks_any (a : List UInt8) (ha : a.length ≤ 1000000) (w : World) :
    Calls Tryz.prog 59 #[.string (mk a)] w fun e w' => e = .returned (.int .i64 (blkN a : Nat)) ∧ w = w' := by
  have hms : (mk a).size = a.length := mk_size a
  have hle := blkN_le a
  go_enter Tryz.func59, Tryz.ntmps59
  go_wp2
  go_loopw [3] (fun i wr => ∃ j : Nat, j ≤ blkN a ∧ i = .int .i64 j ∧ w = wr) (fun i _ => blkN a - (intOf i).toNat)
  case atStart => exact ⟨0, by omega, rfl, rfl⟩
  case round =>
    obtain ⟨j, hj, rfl, rfl⟩ := hrel
    by_cases hlt : j < blkN a
    · obtain ⟨c, hc, hs⟩ := blk_lt hlt
      have h1 : ((j : Int) < ((mk a).size : Int)) := by omega
      have x1 := fun wx => ix_at hc (q := (j : Int)) rfl wx
      have HB := hid (blank_any c)
      rw [hs] at HB
      go_wp2_with (go_at_call 90; (with_reducible refine (HB.out _).mono ?_); rintro e w1 ⟨rfl, rfl⟩)
      go_roundw
      case rel => exact ⟨j + 1, by omega, by go_num, (by first | trivial | rfl)⟩
      case measure => simp [intOf]; omega
    · obtain rfl : j = blkN a := by omega
      by_cases h2 : blkN a < a.length
      · have h1 : (((blkN a : Nat) : Int) < ((mk a).size : Int)) := by omega
        have hc : a[blkN a]? = some a[blkN a] := by simp [h2]
        have hs := blk_at hc
        generalize a[blkN a] = c at hc hs
        have x1 := fun wx => ix_at hc (q := ((blkN a : Nat) : Int)) rfl wx
        have HB := hid (blank_any c)
        rw [hs] at HB
        go_wp2_with (go_at_call 90; (with_reducible refine (HB.out _).mono ?_); rintro e w1 ⟨rfl, rfl⟩)
        go_ret
        exact ⟨rfl, rfl⟩
      · have h1 : ¬ (((blkN a : Nat) : Int) < ((mk a).size : Int)) := by omega
        go_wp2
        go_ret
        exact ⟨rfl, rfl⟩
end Go.Proofs.YtjoeamlidmmioaaGreatDoor

