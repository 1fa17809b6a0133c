/-
  LAYER 14 (shard), the laws ShardSteps and ShardNames: their walks.
-/
import Derived.Test.YtnbghghkahaenaaShProg
import Derived.Test.YtnbghghkahaenaaGPush
import Derived.Laws.Strings3
import Derived.Deep.DeepCutAuto
namespace Go.Proofs.Ytnbghghkahaenaa
open Go.RowKit
set_option linter.unusedVariables false
set_option maxRecDepth 100000

set_option maxHeartbeats 8000000 in
theorem shardSteps_main (HP : ShProg) (w : World) (s : ByteArray) (c : UInt8) (hs : s.size ≤ 2000) : Calls Try.prog 6 #[.string s, .int .u8 c.toNat] w (ShownPost14 w) := by
  have HS := hid (shown14 HP w)
  have hsI : (s.size : Int) ≤ 2000 := by omega
  have hz := pushS_size s c
  have hx := hashL_lt s.data.toList
  have hc : c.toNat < 256 := c.toNat_lt
  have K1 := hid (fun wx => HP.hash wx s (by omega))
  have K2 := hid (fun wx => HP.of wx (pushS s c) (by omega))
  have K3 := hid (fun wx => HP.hash wx (pushS s c) (by omega))
  have hsn : hashL (pushS s c).data.toList = hst (hashL s.data.toList) c := by rw [pushS_list, hashL_snoc]
  have hof : ofL (pushS s c) = hst (hashL s.data.toList) c % 8 := by unfold ofL; rw [hsn]
  rw [hof] at K2
  rw [hsn] at K3
  have HPu := hid (fun wx => str_push wx s c (by omega))
  unfold hst at K2 K3
  clear hsn hof hz
  generalize hashL s.data.toList = x at *
  have hx1 : x ^^^ c.toNat < 4294967296 := Nat.xor_lt_two_pow (n := 32) hx (by omega)
  have e1 : bits .xor .u32 (x : Int) (c.toNat : Int) = ((x ^^^ c.toNat : Nat) : Int) := u32_xor_nat _ _ hx (by omega)
  generalize hr : x ^^^ c.toNat = r at *
  obtain ⟨X, hX⟩ : ∃ X : Nat, r * 16777619 % 4294967296 = X := ⟨_, rfl⟩
  rw [hX] at K2 K3
  have hXl : X < 4294967296 := by omega
  have hwX : (r : Int) * 16777619 % 4294967296 = (X : Int) := by omega
  have hX8 : ((X % 8 : Nat) : Int) = (X : Int) % 8 := by omega
  rw [hX8] at K2
  have h81 : 0 ≤ (X : Int) % 8 := by omega
  have h82 : (X : Int) % 8 < 8 := by omega
  have q1 : ((X : Int) == (X : Int)) = true := beq_self_eq_true _
  have q2 : ((X : Int) % 8 == (X : Int) % 8) = true := beq_self_eq_true _
  generalize hcn : c.toNat = cn at *
  clear HP hs hX hr hX8
  go_enter Try.func6, Try.ntmps6
  go_upto_region 5 with (first
    | (go_at_call 8; (with_reducible refine HS.out.mono ?_); rintro e w1 ⟨rfl, hb⟩)
    | (go_at_call 11; (with_reducible refine (K1.out _).mono ?_); rintro e w2 ⟨rfl, h⟩; have hb := hb.trans (h.mono hb.size); clear h))
  obtain ⟨cap, w3, a3, c3, w4, hp1, hp2, hp3, hp4⟩ := HPu.out w2
  have g1 := hp1.out
  have g3 := hp3.out
  rw [hcn] at hp2
  have hb4 : Below w.heap.size w w4 := hb.trans (hp4.out.mono hb.size)
  clear hp1 hp3 hp4 HPu K1
  go_upto_region 6 with (at_builtin; refine wpList_append_at hp2.out (by with_reducible rfl) rfl _ _ rfl rfl rfl rfl ?_)
  clear g1 g3 hp2 hb
  have hb := hb4
  go_wp2_with (first
    | (go_at_call 13; (with_reducible refine (K2.out _).mono ?_); rintro e w5 ⟨rfl, h⟩; have hb := hb.trans (h.mono hb.size); clear h)
    | (go_at_call 11; (with_reducible refine (K3.out _).mono ?_); rintro e w6 ⟨rfl, h⟩; have hb := hb.trans (h.mono hb.size); clear h))
  go_ret
  exact ⟨by first | rfl | simp, hb⟩
set_option maxHeartbeats 4000000 in
theorem shardSteps_walk (HP : ShProg) (w : World) (s : ByteArray) (c : UInt8) : Calls Try.prog 6 #[.string s, .int .u8 c.toNat] w (ShownPost14 w) := by
  by_cases hs : s.size ≤ 2000
  · exact shardSteps_main HP w s c hs
  have HS := hid (shown14 HP w)
  have hsI : (2000 : Int) < (s.size : Int) := by omega
  generalize c.toNat = cn at *
  clear HP hs
  go_enter Try.func6, Try.ntmps6
  go_wp2_with (go_at_call 8; (with_reducible refine HS.out.mono ?_); rintro e w1 ⟨rfl, hb⟩)
  go_ret
  exact ⟨rfl, hb⟩
theorem str_tail {s : ByteArray} (h : 1 ≤ s.size) (wx : World) : (Instr.slice 9 (.string s) (some (.int .i64 1)) none none).run Try.prog wx = .ok (.string (s.extract 1 s.size)) wx := by
  rw [run_slice_string_from_if (P := Try.prog) wx 9 s .i64 1 Try.underlying9, if_pos ⟨by omega, by omega⟩]
  rfl
theorem tail_list (s : ByteArray) : (s.extract 1 s.size).data.toList = s.data.toList.drop 1 := by
  rw [Lib.extract_data, List.take_of_length_le]
  rw [List.length_drop]
  exact Nat.le_refl _
theorem tail_name {s : ByteArray} (h : nameL s.data.toList = true) (h1 : s.size ≠ 1) : nameL (s.extract 1 s.size).data.toList = true := by
  rw [tail_list]
  have hl : s.data.toList.length = s.size := by simp
  cases hx : s.data.toList with
  | nil => rw [hx] at h; simp [nameL] at h
  | cons x r =>
    rw [hx] at h hl
    exact name_tail h (fun e => h1 (by have h5 : r.length = 0 := e; rw [← hl, List.length_cons, h5]))
set_option maxHeartbeats 16000000 in
theorem shardNames_main (HP : ShProg) (w : World) (s : ByteArray) (c : UInt8) (hs : s.size ≤ 300) : Calls Try.prog 7 #[.string s, .int .u8 c.toNat] w (ShownPost14 w) := by
  have HS := hid (shown14 HP w)
  have hsI : (s.size : Int) ≤ 300 := by omega
  have hz := pushS_size s c
  have hc : c.toNat < 256 := c.toNat_lt
  have K1 := hid (fun wx => HP.name wx s (by omega))
  have K2 := hid (fun wx => HP.name wx (pushS s c) (by omega))
  have K3 := hid (fun wx => HP.name wx (s.extract 1 s.size) (by
    have h1 : (s.extract 1 s.size).size = (s.data.toList.drop 1).length := by rw [← tail_list]; simp
    rw [h1, List.length_drop]
    simp
    omega))
  have hnm := name_more s.data.toList c
  rw [← pushS_list, show s.data.toList.length = s.size by simp] at hnm
  have hnt := tail_name (s := s)
  have HPu := hid (fun wx => str_push wx s c (by omega))
  have hne : nameL s.data.toList = true → 1 ≤ s.size := fun h => by
    unfold nameL at h
    simp only [Bool.and_eq_true, decide_eq_true_eq] at h
    have := h.1.2
    simpa using this
  have htl := str_tail (s := s)
  obtain ⟨b1, hb1⟩ : ∃ b, nameL s.data.toList = b := ⟨_, rfl⟩
  obtain ⟨b2, hb2⟩ : ∃ b, nameL (pushS s c).data.toList = b := ⟨_, rfl⟩
  obtain ⟨b3, hb3⟩ : ∃ b, nameL (s.extract 1 s.size).data.toList = b := ⟨_, rfl⟩
  rw [hb1] at K1 hnm hnt hne
  rw [hb2] at K2 hnm
  rw [hb3] at K3 hnt
  have hempty : s.size = 0 → s = ⟨#[]⟩ := fun h => by
    cases s with
    | mk d => congr 1; exact Array.eq_empty_of_size_eq_zero h
  have htoL : s.size ≠ 0 → s.toList.isEmpty = false := fun h => by
    rw [Lib.toList_data]
    cases hx : s.data.toList with
    | nil => exact absurd (by have := congrArg List.length hx; simpa using this) h
    | cons x r => rfl
  generalize hcn : c.toNat = cn at *
  have hT : b2 = ((b1 || decide (s.size = 0)) && decide (s.size < 60) && decide (33 ≤ cn) && decide (cn ≤ 126)) := hnm
  have HT := hid hT
  have HNt := hid hnt
  have HNe := hid hne
  have HTl := hid htl
  have HEm := hid hempty
  have HTo := hid htoL
  have q1 : (b2 != b2) = false := by cases b2 <;> rfl
  clear HP hs hnm hb1 hb2 hb3 hz hT hnt hne htl hempty htoL
  go_enter Try.func7, Try.ntmps7
  go_upto_region 5 with (first
    | (go_at_call 8; (with_reducible refine HS.out.mono ?_); rintro e w1 ⟨rfl, hb⟩)
    | (go_at_call 9; (with_reducible refine (K1.out _).mono ?_); rintro e w2 ⟨rfl, h⟩; have hb := hb.trans (h.mono hb.size); clear h))
  obtain ⟨cap, w3, a3, c3, w4, hp1, hp2, hp3, hp4⟩ := HPu.out w2
  have g1 := hp1.out
  have g3 := hp3.out
  rw [hcn] at hp2
  have hb4 : Below w.heap.size w w4 := hb.trans (hp4.out.mono hb.size)
  clear hp1 hp3 hp4 HPu K1
  go_upto_region 7 with (first
    | (at_builtin; refine wpList_append_at hp2.out (by with_reducible rfl) rfl _ _ rfl rfl rfl rfl ?_)
    | (go_at_call 9; (with_reducible refine (K2.out _).mono ?_); rintro e w5 ⟨rfl, h⟩; have hb := hb4.trans (h.mono hb4.size); clear h))
  clear g1 g3 hp2 hb4 K2
  go_cut [47] (fun u wx => u = .bool false ∧ wx = w5)
  case first =>
    clear K3 HNt HTl
    have h5 := HT.out
    cases b1 with
    | true =>
      rw [Bool.true_or, Bool.true_and] at h5
      by_cases h1 : s.size < 60
      · have h1I : (s.size : Int) < 60 := by omega
        rw [decide_eq_true h1, Bool.true_and] at h5
        by_cases h2 : 33 ≤ cn
        · have h2I : (33 : Int) ≤ (cn : Int) := by omega
          rw [decide_eq_true h2, Bool.true_and] at h5
          by_cases h3 : cn ≤ 126
          · have h3I : (cn : Int) ≤ 126 := by omega
            rw [decide_eq_true h3] at h5
            subst h5
            go_wp2
            go_meet
            exact ⟨by first | rfl | simp, rfl⟩
          · have h3I : (126 : Int) < (cn : Int) := by omega
            rw [decide_eq_false h3] at h5
            subst h5
            go_wp2
            go_meet
            exact ⟨by first | rfl | (simp; omega), rfl⟩
        · have h2I : (cn : Int) < 33 := by omega
          rw [decide_eq_false h2, Bool.false_and] at h5
          subst h5
          go_wp2
          go_meet
          exact ⟨by first | rfl | (simp; omega), rfl⟩
      · have h1I : (60 : Int) ≤ (s.size : Int) := by omega
        rw [decide_eq_false h1, Bool.false_and, Bool.false_and] at h5
        subst h5
        go_wp2
        go_meet
        exact ⟨by first | rfl | (simp; omega), rfl⟩
    | false =>
      rw [Bool.false_or] at h5
      by_cases h0 : s.size = 0
      · have h6 := HEm.out h0
        subst h6
        have q0 : ((⟨#[]⟩ : ByteArray).toList == (⟨#[]⟩ : ByteArray).toList) = true := beq_self_eq_true _
        rw [decide_eq_true h0, Bool.true_and, decide_eq_true (by omega), Bool.true_and] at h5
        by_cases h2 : 33 ≤ cn
        · have h2I : (33 : Int) ≤ (cn : Int) := by omega
          rw [decide_eq_true h2, Bool.true_and] at h5
          by_cases h3 : cn ≤ 126
          · have h3I : (cn : Int) ≤ 126 := by omega
            rw [decide_eq_true h3] at h5
            subst h5
            go_wp2
            go_meet
            exact ⟨by first | rfl | simp, rfl⟩
          · have h3I : (126 : Int) < (cn : Int) := by omega
            rw [decide_eq_false h3] at h5
            subst h5
            go_wp2
            go_meet
            exact ⟨by first | rfl | (simp; omega), rfl⟩
        · have h2I : (cn : Int) < 33 := by omega
          rw [decide_eq_false h2, Bool.false_and] at h5
          subst h5
          go_wp2
          go_meet
          exact ⟨by first | rfl | (simp; omega), rfl⟩
      · have q0 := HTo.out h0
        rw [decide_eq_false h0, Bool.false_and, Bool.false_and, Bool.false_and] at h5
        subst h5
        go_wp2
        go_meet
        exact ⟨by first | rfl | (simp; omega), rfl⟩
  case rest =>
  obtain ⟨rfl, rfl⟩ := hcut
  clear HT HEm HTo q1
  cases b1 with
  | false =>
    go_wp2
    go_ret
    exact ⟨by first | rfl | simp, hb⟩
  | true =>
    have hge := HNe.out rfl
    by_cases h1 : s.size = 1
    · have q1 : ((s.size : Int) == 1) = true := by rw [h1]; rfl
      clear HNt HTl K3
      go_wp2
      go_ret
      exact ⟨by first | rfl | simp, hb⟩
    · have q1 : ((s.size : Int) == 1) = false := beq_false_of_ne (by omega)
      have htl := HTl.out hge
      obtain rfl : b3 = true := HNt.out rfl h1
      go_wp2_with (go_at_call 9; (with_reducible refine (K3.out _).mono ?_); rintro e w6 ⟨rfl, h⟩; have hb := hb.trans (h.mono hb.size); clear h)
      go_ret
      exact ⟨by first | rfl | simp, hb⟩
set_option maxHeartbeats 4000000 in
theorem shardNames_walk (HP : ShProg) (w : World) (s : ByteArray) (c : UInt8) : Calls Try.prog 7 #[.string s, .int .u8 c.toNat] w (ShownPost14 w) := by
  by_cases hs : s.size ≤ 300
  · exact shardNames_main HP w s c hs
  have HS := hid (shown14 HP w)
  have hsI : (300 : Int) < (s.size : Int) := by omega
  generalize c.toNat = cn at *
  clear HP hs
  go_enter Try.func7, Try.ntmps7
  go_wp2_with (go_at_call 8; (with_reducible refine HS.out.mono ?_); rintro e w1 ⟨rfl, hb⟩)
  go_ret
  exact ⟨rfl, hb⟩
end Go.Proofs.Ytnbghghkahaenaa
