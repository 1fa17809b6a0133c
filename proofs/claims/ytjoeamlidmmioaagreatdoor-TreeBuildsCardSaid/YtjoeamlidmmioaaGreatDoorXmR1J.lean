import Derived.Test.YtjoeamlidmmioaaGreatDoorXmRfEJ
/-
  LAYER 11 (xml), THE DOCUMENT's: bytes, names, blanks, where a text stands in another one.
-/
namespace Go.Proofs.YtjoeamlidmmioaaGreatDoor
open Go.RowKit
set_option linter.unusedVariables false
set_option maxRecDepth 100000

theorem ix_at {a : List UInt8} {k : Nat} {c : UInt8} (h : a[k]? = some c) {q : Int} (hq : q = (k : Nat)) (wx : World) : (Instr.index 9 (.string (mk a)) (.int .i64 q)).run Tryz.prog wx = .ok (.int .u8 (c.toNat : Nat)) wx := by
  subst hq
  rw [run_index_string (P := Tryz.prog) wx 9 (mk a) .i64 (k : Int) Tryz.underlying9]
  have hk : k < (mk a).size := by rw [mk_size]; exact (List.getElem?_eq_some_iff.1 h).1
  have hc : (mk a)[k]'hk = c := by
    have e : a[k]'(by rw [mk_size] at hk; exact hk) = c := (List.getElem?_eq_some_iff.1 h).2
    show (mk a).data[k] = c
    rw [← e]; rfl
  simp [hk, hc]
theorem s_from {a : List UInt8} {k : Nat} (h : k ≤ a.length) {q : Int} (hq : q = (k : Nat)) (wx : World) : (Instr.slice 9 (.string (mk a)) (some (.int .i64 q)) none none).run Tryz.prog wx = .ok (.string (mk (a.drop k))) wx := by
  subst hq
  rw [run_slice_string_l (P := Tryz.prog) wx 9 (mk a) Tryz.underlying9 .i64 (k : Int) (by omega) (by rw [mk_size]; omega), Int.toNat_natCast, extract_drop _ _ _ rfl, mk_data]
theorem s_to {a : List UInt8} {k : Nat} (h : k ≤ a.length) {q : Int} (hq : q = (k : Nat)) (wx : World) : (Instr.slice 9 (.string (mk a)) none (some (.int .i64 q)) none).run Tryz.prog wx = .ok (.string (mk (a.take k))) wx := by
  subst hq
  rw [run_slice_string_h (P := Tryz.prog) wx 9 (mk a) Tryz.underlying9 .i64 (k : Int) (by omega) (by rw [mk_size]; omega), Int.toNat_natCast, extract_take, mk_data]
theorem s_mid {a : List UInt8} {i j : Nat} (hi : i ≤ j) (h : j ≤ a.length) {p q : Int} (hp : p = (i : Nat)) (hq : q = (j : Nat)) (wx : World) : (Instr.slice 9 (.string (mk a)) (some (.int .i64 p)) (some (.int .i64 q)) none).run Tryz.prog wx = .ok (.string (mk ((a.drop i).take (j - i)))) wx := by
  subst hp hq
  exact slice_lh (lo := (i : Int)) (hi := (j : Int)) (by omega) (by omega) (by rw [mk_size]; omega) (by rw [Int.toNat_natCast, Int.toNat_natCast, mk_data]) wx
theorem digX_nat (c : UInt8) : digX c = decide (48 ≤ c.toNat ∧ c.toNat ≤ 57) := by
  rw [Bool.eq_iff_iff]
  simp [digX, UInt8.le_iff_toNat_le]
theorem spcX_nat (c : UInt8) : spcX c = decide (c.toNat = 32 ∨ c.toNat = 9 ∨ c.toNat = 10 ∨ c.toNat = 13) := by
  rw [Bool.eq_iff_iff]
  simp [spcX, ← UInt8.toNat_inj]
  omega
set_option maxHeartbeats 4000000 in
theorem first_any (c : UInt8) (w : World) : Calls Tryz.prog 88 #[.int .u8 (c.toNat : Nat)] w fun e w' => e = .returned (.bool (begX c)) ∧ w = w' := by
  rw [begX_nat]
  have hc : c.toNat < 256 := c.toNat_lt
  generalize c.toNat = n at *
  go_enter Tryz.func88, Tryz.ntmps88
  go_wp2
  all_goals (go_ret; exact ⟨ret_bool (by rw [Bool.eq_iff_iff]; simp; omega), rfl⟩)
theorem digit_any (c : UInt8) (w : World) : Calls Tryz.prog 89 #[.int .u8 (c.toNat : Nat)] w fun e w' => e = .returned (.bool (digX c)) ∧ w = w' := by
  rw [digX_nat]
  have hc : c.toNat < 256 := c.toNat_lt
  generalize c.toNat = n at *
  go_enter Tryz.func89, Tryz.ntmps89
  go_wp2
  all_goals (go_ret; exact ⟨ret_bool (by rw [Bool.eq_iff_iff]; simp; try omega), rfl⟩)
set_option maxHeartbeats 4000000 in
theorem blank_any (c : UInt8) (w : World) : Calls Tryz.prog 90 #[.int .u8 (c.toNat : Nat)] w fun e w' => e = .returned (.bool (spcX c)) ∧ w = w' := by
  rw [spcX_nat]
  have hc : c.toNat < 256 := c.toNat_lt
  generalize c.toNat = n at *
  go_enter Tryz.func90, Tryz.ntmps90
  go_wp2
  all_goals (go_ret; exact ⟨ret_bool (by rw [Bool.eq_iff_iff]; simp; try omega), rfl⟩)
/-- What a digit says; -1: it is none. -/
def sixI (c : UInt8) : Int := match sixX c with | some d => (d : Nat) | none => -1
theorem sixI_nat (c : UInt8) : sixI c = if 48 ≤ c.toNat ∧ c.toNat ≤ 57 then (c.toNat : Int) - 48 else if 97 ≤ c.toNat ∧ c.toNat ≤ 102 then (c.toNat : Int) - 87 else if 65 ≤ c.toNat ∧ c.toNat ≤ 70 then (c.toNat : Int) - 55 else -1 := by
  unfold sixI sixX
  rw [digX_nat]
  simp only [UInt8.le_iff_toNat_le, decide_eq_true_eq, Bool.and_eq_true, UInt8.toNat_ofNat]
  split
  · rename_i h
    split at h
    · rename_i k; cases h; rw [if_pos k]; omega
    · rename_i k
      rw [if_neg k]
      split at h
      · rename_i k2; cases h; rw [if_pos (by simpa using k2)]; simp at k2; omega
      · rename_i k2
        rw [if_neg (by simpa using k2)]
        split at h
        · rename_i k3; cases h; rw [if_pos (by simpa using k3)]; simp at k3; omega
        · cases h
  · rename_i h
    split at h
    · cases h
    · rename_i k
      rw [if_neg k]
      split at h
      · cases h
      · rename_i k2
        rw [if_neg (by simpa using k2)]
        split at h
        · cases h
        · rename_i k3
          rw [if_neg (by simpa using k3)]
set_option maxHeartbeats 4000000 in
theorem six_any (c : UInt8) (w : World) : Calls Tryz.prog 104 #[.int .u8 (c.toNat : Nat)] w fun e w' => e = .returned (.int .i64 (sixI c)) ∧ w = w' := by
  have hc : c.toNat < 256 := c.toNat_lt
  have HD := hid (digit_any c)
  rw [digX_nat] at HD
  rw [sixI_nat]
  generalize c.toNat = n at *
  by_cases h1 : 48 ≤ n ∧ n ≤ 57
  · rw [if_pos h1]
    rw [decide_eq_true h1] at HD
    go_enter Tryz.func104, Tryz.ntmps104
    go_wp2_with (go_at_call 89; (with_reducible refine (HD.out _).mono ?_); rintro e w1 ⟨rfl, rfl⟩)
    go_ret
    exact ⟨by congr 2 <;> go_num, rfl⟩
  · rw [if_neg h1]
    rw [decide_eq_false h1] at HD
    by_cases h2 : 97 ≤ n ∧ n ≤ 102
    · rw [if_pos h2]
      have a1 : ((97 : Int) ≤ (n : Int)) := by omega
      have a2 : ((n : Int) ≤ 102) := by omega
      go_enter Tryz.func104, Tryz.ntmps104
      go_wp2_with (go_at_call 89; (with_reducible refine (HD.out _).mono ?_); rintro e w1 ⟨rfl, rfl⟩)
      go_ret
      exact ⟨by congr 2 <;> go_num, rfl⟩
    · rw [if_neg h2]
      by_cases h3 : 65 ≤ n ∧ n ≤ 70
      · rw [if_pos h3]
        have a1 : ¬ ((97 : Int) ≤ (n : Int)) := by omega
        have a2 : ((65 : Int) ≤ (n : Int)) := by omega
        have a3 : ((n : Int) ≤ 70) := by omega
        go_enter Tryz.func104, Tryz.ntmps104
        go_wp2_with (go_at_call 89; (with_reducible refine (HD.out _).mono ?_); rintro e w1 ⟨rfl, rfl⟩)
        go_ret
        exact ⟨by congr 2 <;> go_num, rfl⟩
      · rw [if_neg h3]
        go_enter Tryz.func104, Tryz.ntmps104
        go_wp2_with (go_at_call 89; (with_reducible refine (HD.out _).mono ?_); rintro e w1 ⟨rfl, rfl⟩)
        all_goals (first | (go_ret; exact ⟨rfl, rfl⟩) | (exfalso; omega))
theorem prefix_take (t a : List UInt8) : t.isPrefixOf a = (a.take t.length == t) := by
  rw [Bool.eq_iff_iff, List.isPrefixOf_iff_prefix, beq_iff_eq, List.prefix_iff_eq_take]
  exact eq_comm
theorem toL_eq (l m : List UInt8) : ((mk l).toList == (mk m).toList) = (l == m) := by rw [Lib.toList_data, Lib.toList_data, mk_data, mk_data]
set_option maxHeartbeats 4000000 in
theorem begs_any (a : List UInt8) (t : ByteArray) (w : World) : Calls Tryz.prog 56 #[.string (mk a), .string t] w fun e w' => e = .returned (.bool (t.data.toList.isPrefixOf a)) ∧ w = w' := by
  rw [prefix_take, str_len]
  by_cases h : t.size ≤ a.length
  · have h1 : ((t.size : Int) ≤ ((mk a).size : Int)) := by rw [mk_size]; omega
    have x1 := fun wx => s_to h (q := (t.size : Int)) rfl wx
    have q1 : ((mk (a.take t.size)).toList == t.toList) = (a.take t.size == t.data.toList) := by rw [← mk_of t, toL_eq, mk_data]
    go_enter Tryz.func56, Tryz.ntmps56
    go_wp2
    go_ret
    exact ⟨rfl, rfl⟩
  · have h1 : ¬ ((t.size : Int) ≤ ((mk a).size : Int)) := by rw [mk_size]; omega
    have h2 : (a.take t.size == t.data.toList) = false := by
      rw [beq_eq_false_iff_ne]
      intro e
      have := congrArg List.length e
      rw [List.length_take, str_len] at this
      omega
    rw [h2]
    go_enter Tryz.func56, Tryz.ntmps56
    go_wp2
    go_ret
    exact ⟨rfl, rfl⟩
end Go.Proofs.YtjoeamlidmmioaaGreatDoor

