import Derived.Test.YtjoeamlidmmioaaGreatDoorMq2J
/-
  LAYER 11 (xml), THE PROGRAM: the reader's past, upTo, space.
-/
namespace Go.Proofs.YtjoeamlidmmioaaGreatDoor
open Go.RowKit
set_option linter.unusedVariables false
set_option maxRecDepth 100000

set_option maxHeartbeats 1000000 in
theorem rPast_any {w : World} {F : Nat → Prop} {b : Nat} {s : RSt} (h : RIs w F b s) (p : ByteArray) :
    Calls Tryz.prog 24 #[.pointer (some ⟨b, 0, none⟩), .string p] w fun e w' => e = .returned (.bool (past p.data.toList s.rest).isSome) ∧ RTo F w w' b { s with rest := (past p.data.toList s.rest).getD s.rest } := by
  obtain ⟨c0, f0, hlt⟩ := rIs_rest h
  have HC : Hid (∀ wx, Calls Tryz.prog 43 #[.string (mk s.rest), .string p] wx fun e w' => e = .returned (.tuple #[.string (mk ((past p.data.toList s.rest).getD s.rest)), .bool (past p.data.toList s.rest).isSome]) ∧ wx = w') := hid (fun wx => cutPrefix_any (mk s.rest) p wx)
  have HS := hid (fun l => rIs_store h (Below.refl _ _) l)
  clear h
  generalize (past p.data.toList s.rest).getD s.rest = r at *
  generalize (past p.data.toList s.rest).isSome = o at *
  go_enter Tryz.func24, Tryz.ntmps24
  go_wp2_with (go_at_call 43; (with_reducible refine (HC.out _).mono ?_); rintro e w' ⟨rfl, rfl⟩)
  go_ret
  exact ⟨rfl, HS.out r⟩
theorem rPast_yes {w : World} {F : Nat → Prop} {b : Nat} {s : RSt} (h : RIs w F b s) (p : ByteArray) {r : List UInt8} (hp : past p.data.toList s.rest = some r) :
    Calls Tryz.prog 24 #[.pointer (some ⟨b, 0, none⟩), .string p] w fun e w' => e = .returned (.bool true) ∧ RTo F w w' b { s with rest := r } := by
  have := rPast_any h p
  rw [hp] at this
  exact this
theorem rPast_no {w : World} {F : Nat → Prop} {b : Nat} {s : RSt} (h : RIs w F b s) (p : ByteArray) (hp : past p.data.toList s.rest = none) :
    Calls Tryz.prog 24 #[.pointer (some ⟨b, 0, none⟩), .string p] w fun e w' => e = .returned (.bool false) ∧ RTo F w w' b s := by
  have := rPast_any h p
  rw [hp] at this
  exact this
set_option maxHeartbeats 1000000 in
theorem rUpTo_yes {B : Nat} {w : World} {F : Nat → Prop} {b : Nat} {s : RSt} (h : RIs w F b s) (hG : Gb B w) (hl : s.rest.length ≤ 100000) (e : ByteArray) (he : e.data.toList ≠ []) {x y : List UInt8} (hu : upTo e.data.toList s.rest = some (x, y)) :
    Calls Tryz.prog 25 #[.pointer (some ⟨b, 0, none⟩), .string e] w fun q w' => q = .returned (.tuple #[.string (mk x), .bool true]) ∧ RTo F w w' b { s with rest := y } := by
  obtain ⟨c0, f0, hlt⟩ := rIs_rest h
  have HC : Hid (Calls Tryz.prog 44 #[.string (mk s.rest), .string e] w fun q w' => q = .returned (.tuple #[.string (mk x), .string (mk y), .bool true]) ∧ Below w.heap.size w w') := hid (by
    have := cut_any hG (mk s.rest) e he (by rw [mk_size]; omega)
    rw [mk_data, cutV, hu] at this
    exact this)
  have HS := hid (fun w1 (hb : Below w.heap.size w w1) => rIs_store h hb y)
  clear h
  go_enter Tryz.func25, Tryz.ntmps25
  go_wp2_with (go_at_call 44; (with_reducible refine HC.out.mono ?_))
  rintro q w1 ⟨rfl, hb⟩
  have c0' : w1.cell? ⟨b, 0, none⟩ = some (.string (mk s.rest)) := (hb.cell (p := ⟨b, 0, none⟩) hlt).trans c0
  have f0' : w1.frozen? ⟨b, 0, none⟩ = false := (hb.frozen (p := ⟨b, 0, none⟩) hlt).trans f0
  go_wp2
  go_ret2
  exact ⟨rfl, HS.out _ hb⟩
set_option maxHeartbeats 1000000 in
theorem rUpTo_no {B : Nat} {w : World} {F : Nat → Prop} {b : Nat} {s : RSt} (h : RIs w F b s) (hG : Gb B w) (hl : s.rest.length ≤ 100000) (e : ByteArray) (he : e.data.toList ≠ []) (hu : upTo e.data.toList s.rest = none) :
    Calls Tryz.prog 25 #[.pointer (some ⟨b, 0, none⟩), .string e] w fun q w' => q = .returned (.tuple #[.string (mk s.rest), .bool false]) ∧ RTo F w w' b { s with rest := [] } := by
  obtain ⟨c0, f0, hlt⟩ := rIs_rest h
  have HC : Hid (Calls Tryz.prog 44 #[.string (mk s.rest), .string e] w fun q w' => q = .returned (.tuple #[.string (mk s.rest), .string (mk []), .bool false]) ∧ Below w.heap.size w w') := hid (by
    have := cut_any hG (mk s.rest) e he (by rw [mk_size]; omega)
    rw [mk_data, cutV, hu] at this
    exact this)
  have HS := hid (fun w1 (hb : Below w.heap.size w w1) => rIs_store h hb [])
  clear h
  go_enter Tryz.func25, Tryz.ntmps25
  go_wp2_with (go_at_call 44; (with_reducible refine HC.out.mono ?_))
  rintro q w1 ⟨rfl, hb⟩
  have c0' : w1.cell? ⟨b, 0, none⟩ = some (.string (mk s.rest)) := (hb.cell (p := ⟨b, 0, none⟩) hlt).trans c0
  have f0' : w1.frozen? ⟨b, 0, none⟩ = false := (hb.frozen (p := ⟨b, 0, none⟩) hlt).trans f0
  go_wp2
  go_ret2
  exact ⟨rfl, HS.out _ hb⟩
theorem dropW_lt (s : List UInt8) : ((mk (s.dropWhile spcX)).size : Int) ≤ (mk s).size := by
  rw [mk_size, mk_size]
  have := dropW_len spcX s
  omega
set_option maxHeartbeats 1000000 in
theorem rSpace_any {w : World} {F : Nat → Prop} {b : Nat} {s : RSt} (h : RIs w F b s) :
    Calls Tryz.prog 47 #[.pointer (some ⟨b, 0, none⟩)] w fun q w' => q = .returned (.bool (decide ((s.rest.dropWhile spcX).length < s.rest.length))) ∧ RTo F w w' b { s with rest := s.rest.dropWhile spcX } := by
  obtain ⟨c0, f0, hlt⟩ := rIs_rest h
  have HC : Hid (Calls Tryz.prog 79 #[.string (mk s.rest), .string ⟨#[32, 9, 10, 13]⟩] w fun q w' => q = .returned (.string (mk (s.rest.dropWhile spcX))) ∧ Below w.heap.size w w') := hid (trimLeft_any (mk s.rest) w)
  have HS := hid (fun w1 (hb : Below w.heap.size w w1) => rIs_store h hb (s.rest.dropWhile spcX))
  have HE : Hid (decide (((mk (s.rest.dropWhile spcX)).size : Int) < ((mk s.rest).size : Int)) = decide ((s.rest.dropWhile spcX).length < s.rest.length)) := hid (by rw [mk_size, mk_size]; exact decide_eq_decide.2 (by omega))
  clear h
  generalize s.rest.dropWhile spcX = r at *
  go_enter Tryz.func47, Tryz.ntmps47
  go_wp2_with (go_at_call 79; (with_reducible refine HC.out.mono ?_))
  rintro q w1 ⟨rfl, hb⟩
  have c0' : w1.cell? ⟨b, 0, none⟩ = some (.string (mk s.rest)) := (hb.cell (p := ⟨b, 0, none⟩) hlt).trans c0
  have f0' : w1.frozen? ⟨b, 0, none⟩ = false := (hb.frozen (p := ⟨b, 0, none⟩) hlt).trans f0
  go_wp2
  go_ret
  exact ⟨by rw [← HE.out]; first | rfl | simp, HS.out _ hb⟩
end Go.Proofs.YtjoeamlidmmioaaGreatDoor
/-
  LAYER 11 (xml), THE PROGRAM: begins, continues, the reader's name.
-/
namespace Go.Proofs.YtjoeamlidmmioaaGreatDoor
open Go.RowKit
set_option linter.unusedVariables false
set_option maxRecDepth 100000

theorem begX_nat (c : UInt8) : begX c = decide ((65 ≤ c.toNat ∧ c.toNat ≤ 90) ∨ (97 ≤ c.toNat ∧ c.toNat ≤ 122) ∨ c.toNat = 95 ∨ c.toNat = 58 ∨ 128 ≤ c.toNat) := by
  rw [Bool.eq_iff_iff]
  simp [begX, UInt8.le_iff_toNat_le, ← UInt8.toNat_inj]
  omega
theorem conX_nat (c : UInt8) : conX c = decide ((48 ≤ c.toNat ∧ c.toNat ≤ 57) ∨ c.toNat = 46 ∨ c.toNat = 45) := by
  rw [Bool.eq_iff_iff]
  simp [conX, digX, UInt8.le_iff_toNat_le, ← UInt8.toNat_inj]
  omega
theorem ret_bool {a b : Bool} (h : a = b) : Ending.returned (.bool a) = .returned (.bool b) := by rw [h]
set_option maxHeartbeats 4000000 in
theorem begins_any (c : UInt8) (w : World) : Calls Tryz.prog 76 #[.int .u8 (c.toNat : Nat)] w fun e w' => e = .returned (.bool (begX c)) ∧ w = w' := by
  rw [begX_nat]
  have hc : c.toNat < 256 := c.toNat_lt
  generalize c.toNat = n at *
  go_enter Tryz.func76, Tryz.ntmps76
  go_wp2
  all_goals (go_ret; exact ⟨ret_bool (by rw [Bool.eq_iff_iff]; simp; omega), rfl⟩)
set_option maxHeartbeats 4000000 in
theorem continues_any (c : UInt8) (w : World) : Calls Tryz.prog 77 #[.int .u8 (c.toNat : Nat)] w fun e w' => e = .returned (.bool (conX c)) ∧ w = w' := by
  rw [conX_nat]
  have hc : c.toNat < 256 := c.toNat_lt
  generalize c.toNat = n at *
  go_enter Tryz.func77, Tryz.ntmps77
  go_wp2
  all_goals (go_ret; exact ⟨ret_bool (by rw [Bool.eq_iff_iff]; simp; omega), rfl⟩)

theorem name_lt {s : List UInt8} {k : Nat} (h : k < (nameX s).1.length) : ∃ c, s[k]? = some c ∧ (begX c = true ∨ (begX c = false ∧ 0 < k ∧ conX c = true)) := by
  have he := nameX_eq s
  have hk : s[k]? = (nameX s).1[k]? := by rw [← he, List.getElem?_append_left h, he]
  refine ⟨(nameX s).1[k], by rw [hk]; simp, ?_⟩
  have hne : (nameX s).1 ≠ [] := fun e => by rw [e] at h; simp at h
  have hm := nameX_ok hne
  obtain ⟨c, r, hcr, hc, hr⟩ := nmOk_parts hm
  cases k with
  | zero => left; simp [hcr, hc]
  | succ k =>
    have hx : (nameX s).1[k + 1] ∈ r := by
      have : (nameX s).1[k + 1] = r[k]'(by rw [hcr] at h; simpa using h) := by simp [hcr]
      rw [this]; exact List.getElem_mem _
    have := hr _ hx
    unfold nmc at this
    cases hb : begX (nameX s).1[k + 1] with
    | true => left; rfl
    | false =>
      right
      rw [hb] at this
      exact ⟨rfl, by omega, by simpa using this⟩
theorem dropW_head {p : UInt8 → Bool} : ∀ {l : List UInt8} {c : UInt8} {r : List UInt8}, l.dropWhile p = c :: r → p c = false
  | [], c, r, h => by cases h
  | x :: l, c, r, h => by
    by_cases hx : p x = true
    · rw [List.dropWhile_cons_of_pos hx] at h; exact dropW_head h
    · rw [List.dropWhile_cons_of_neg hx] at h
      cases h; simpa using hx
theorem name_end {s : List UInt8} {c : UInt8} (h : s[(nameX s).1.length]? = some c) : begX c = false ∧ (0 < (nameX s).1.length → conX c = false) := by
  have he := nameX_eq s
  have hk : (nameX s).2[0]? = some c := by
    rw [← h]
    conv => rhs; rw [← he]
    rw [List.getElem?_append_right (by rw [he]; exact Nat.le_refl _)]
    simp [he]
  cases s with
  | nil => simp [nameX] at hk
  | cons x r =>
    unfold nameX at hk ⊢
    by_cases hx : begX x = true
    · simp only [hx, if_true] at hk ⊢
      cases hd : r.dropWhile nmc with
      | nil => rw [hd] at hk; cases hk
      | cons y ys =>
        rw [hd] at hk
        simp at hk
        subst hk
        have := dropW_head hd
        unfold nmc at this
        simp at this
        exact ⟨this.1, fun _ => this.2⟩
    · simp only [hx] at hk ⊢
      simp at hk ⊢
      subst hk
      simpa using hx
theorem name_take (s : List UInt8) : s.take (nameX s).1.length = (nameX s).1 ∧ s.drop (nameX s).1.length = (nameX s).2 := by
  have he := nameX_eq s
  constructor
  · conv => lhs; rw [← he]
    rw [he, ← he]
    simp [he]
    have := List.take_left (l₁ := (nameX s).1) (l₂ := (nameX s).2)
    rw [he] at this; exact this
  · have := List.drop_left (l₁ := (nameX s).1) (l₂ := (nameX s).2)
    rw [he] at this; exact this
end Go.Proofs.YtjoeamlidmmioaaGreatDoor
/-
  LAYER 11 (xml), THE PROGRAM: the reader's name.
-/
namespace Go.Proofs.YtjoeamlidmmioaaGreatDoor
open Go.RowKit
set_option linter.unusedVariables false
set_option maxRecDepth 100000

set_option maxHeartbeats 4000000 in
theorem rName_any {w : World} {F : Nat → Prop} {b : Nat} {s : RSt} (h : RIs w F b s) (hl : s.rest.length ≤ 100000) :
    Calls Tryz.prog 46 #[.pointer (some ⟨b, 0, none⟩)] w fun q w' => q = .returned (.tuple #[.string (mk (nameX s.rest).1), .bool (decide ((nameX s.rest).1 ≠ []))]) ∧ RTo F w w' b { s with rest := (nameX s.rest).2 } := by
  obtain ⟨c0, f0, hlt⟩ := rIs_rest h
  have HS := hid (fun w1 (hb : Below w.heap.size w w1) => rIs_store h hb (nameX s.rest).2)
  have HL := hid (fun k hk => name_lt (s := s.rest) (k := k) hk)
  have HE := hid (fun c hc => name_end (s := s.rest) (c := c) hc)
  have hN := nameX_len s.rest
  obtain ⟨ht, hd⟩ := name_take s.rest
  obtain ⟨S, hS⟩ : ∃ S, mk s.rest = S := ⟨_, rfl⟩
  have hSd : S.data.toList = s.rest := by rw [← hS]; rfl
  have hsz : s.rest.length = S.size := by rw [← hSd]; rfl
  obtain ⟨N, hNN⟩ : ∃ N, (nameX s.rest).1.length = N := ⟨_, rfl⟩
  have HD : Hid (decide (0 < (N : Int)) = decide ((nameX s.rest).1 ≠ [])) := hid (decide_eq_decide.2 (by rw [← hNN]; exact ⟨fun h => List.length_pos_iff.1 (by omega), fun h => by have := List.length_pos_iff.2 h; omega⟩))
  have HZ : Hid (N = 0 → (nameX s.rest).1 = []) := hid (fun h => List.length_eq_zero_iff.1 (by omega))
  rw [hNN] at HL HE ht hd hN
  have HZ2 : Hid (N = 0 → mk (nameX s.rest).2 = S) := hid (fun h => str_ext (by rw [mk_data, ← hd, h, hSd]; rfl))
  rw [hS] at c0
  have l1 := hid (fun wx (h0 : (N : Int) ≤ S.size) => slice_h (s := S) (hi := (N : Int)) (l := (nameX s.rest).1) (by omega) h0 (by rw [hSd]; simpa using ht) wx)
  have l2 := hid (fun wx (h0 : (N : Int) ≤ S.size) => slice_l (s := S) (lo := (N : Int)) (l := (nameX s.rest).2) (by omega) h0 (by rw [hSd]; simpa using hd) wx)
  have hNl : N ≤ S.size := by omega
  have hSl : S.size ≤ 100000 := by omega
  have HG : Hid (∀ k (hk : k < S.size), s.rest[k]? = some (S[k]'hk)) := hid (fun k hk => by rw [← hSd]; simp [hk]; rfl)
  have HC := hid (fun (nm : List UInt8) wx (hb : nm.length ≤ 100000) => clone_any (mk nm) wx (by rw [mk_size]; omega))
  have hnl : (nameX s.rest).1.length ≤ 100000 := by omega
  clear ht hd hNN hN hsz hSd hS h hl
  generalize (nameX s.rest).1 = nm at *
  generalize (nameX s.rest).2 = rs at *
  go_enter Tryz.func46, Tryz.ntmps46
  go_wp2
  go_loop [4] (fun i => ∃ k : Nat, k ≤ N ∧ i = .int .i64 k) (fun i => N - (intOf i).toNat)
  case atStart => exact ⟨0, Nat.zero_le _, rfl⟩
  case round =>
    obtain ⟨k, hk, rfl⟩ := hrel
    by_cases hkN : k < N
    · have hks : k < S.size := by omega
      obtain ⟨c, hc, hcase⟩ := HL.out k hkN
      have hcc : S[k] = c := by have := HG.out k hks; rw [hc] at this; exact (Option.some.inj this).symm
      have B1 : Hid (∀ wx, Calls Tryz.prog 76 #[.int .u8 (S[k].toNat : Nat)] wx fun e w' => e = .returned (.bool (begX c)) ∧ wx = w') := hid (fun wx => by rw [hcc]; exact begins_any c wx)
      have B2 : Hid (∀ wx, Calls Tryz.prog 77 #[.int .u8 (S[k].toNat : Nat)] wx fun e w' => e = .returned (.bool (conX c)) ∧ wx = w') := hid (fun wx => by rw [hcc]; exact continues_any c wx)
      clear hc hcc
      rcases hcase with hb | ⟨hb, h0, hcn⟩
      · rw [hb] at B1
        clear hb
        go_wp2_with (first | (go_at_call 76; (with_reducible refine (B1.out _).mono ?_); rintro e w1 ⟨rfl, rfl⟩))
        go_round
        case rel => exact ⟨k + 1, by omega, by go_num⟩
        case measure => simp [intOf]; omega
      · rw [hb] at B1
        rw [hcn] at B2
        clear hb hcn
        go_wp2_with (first | (go_at_call 76; (with_reducible refine (B1.out _).mono ?_); rintro e w1 ⟨rfl, rfl⟩) | (go_at_call 77; (with_reducible refine (B2.out _).mono ?_); rintro e w1 ⟨rfl, rfl⟩))
        go_round
        case rel => exact ⟨k + 1, by omega, by go_num⟩
        case measure => simp [intOf]; omega
    · obtain rfl : k = N := by omega
      have r1 := fun wx => l1.out wx (by omega)
      have r2 := fun wx => l2.out wx (by omega)
      clear hkN
      by_cases hks : k < S.size
      · have hc := HG.out k hks
        obtain ⟨hb, hcn⟩ := HE.out _ hc
        have B1 : Hid (∀ wx, Calls Tryz.prog 76 #[.int .u8 (S[k].toNat : Nat)] wx fun e w' => e = .returned (.bool false) ∧ wx = w') := hid (fun wx => by rw [← hb]; exact begins_any _ wx)
        by_cases h0 : 0 < k
        · have hcn := hcn h0
          have B2 : Hid (∀ wx, Calls Tryz.prog 77 #[.int .u8 (S[k].toNat : Nat)] wx fun e w' => e = .returned (.bool false) ∧ wx = w') := hid (fun wx => by rw [← hcn]; exact continues_any _ wx)
          clear hb hcn hc
          go_wp2_with (first | (go_at_call 76; (with_reducible refine (B1.out _).mono ?_); rintro e w1 ⟨rfl, rfl⟩) | (go_at_call 77; (with_reducible refine (B2.out _).mono ?_); rintro e w1 ⟨rfl, rfl⟩) | (go_at_call 78; (with_reducible refine (HC.out _ _ hnl).mono ?_)))
          rintro e w1 ⟨rfl, hb⟩
          have c0' : w1.cell? ⟨b, 0, none⟩ = some (.string S) := (hb.cell (p := ⟨b, 0, none⟩) hlt).trans c0
          have f0' : w1.frozen? ⟨b, 0, none⟩ = false := (hb.frozen (p := ⟨b, 0, none⟩) hlt).trans f0
          go_wp2
          go_ret2
          exact ⟨by rw [← HD.out]; first | rfl | simp [h0], HS.out _ hb⟩
        · have hk0 : k = 0 := by omega
          subst hk0
          have hnm : nm = [] := HZ.out rfl
          have hz2 := hid (HZ2.out rfl)
          subst hnm
          have H0 : Hid (Calls Tryz.prog 78 #[.string ByteArray.empty] w fun e w' => e = .returned (.string ByteArray.empty) ∧ Below w.heap.size w w') := hid (clone_any ByteArray.empty w (by decide))
          clear hb hcn hc h0
          go_wp2_with (first | (go_at_call 76; (with_reducible refine (B1.out _).mono ?_); rintro e w1 ⟨rfl, rfl⟩) | (go_at_call 78; (with_reducible refine H0.out.mono ?_)))
          rintro e w1 ⟨rfl, hb⟩
          have c0' : w1.cell? ⟨b, 0, none⟩ = some (.string S) := (hb.cell (p := ⟨b, 0, none⟩) hlt).trans c0
          have f0' : w1.frozen? ⟨b, 0, none⟩ = false := (hb.frozen (p := ⟨b, 0, none⟩) hlt).trans f0
          go_wp2
          go_ret2
          have hq := HS.out _ hb
          rw [hz2.out] at hq
          exact ⟨by rw [← HD.out]; first | rfl | simp, hq⟩
      · have hkd : decide (k < S.size) = false := by simpa using hks
        have hkd2 : S.size ≤ k := by omega
        clear hks
        go_wp2_with (go_at_call 78; (with_reducible refine (HC.out _ _ hnl).mono ?_))
        rintro e w1 rfl hb
        have c0' : w1.cell? ⟨b, 0, none⟩ = some (.string S) := (hb.cell (p := ⟨b, 0, none⟩) hlt).trans c0
        have f0' : w1.frozen? ⟨b, 0, none⟩ = false := (hb.frozen (p := ⟨b, 0, none⟩) hlt).trans f0
        go_wp2
        go_ret2
        exact ⟨by rw [← HD.out]; first | rfl | simp, HS.out _ hb⟩
end Go.Proofs.YtjoeamlidmmioaaGreatDoor
/-
  strconv.ParseUint at base 10 (at most seven digits) and at base 16 (at most six), 32 bits (written by tools/gen11_pu.py).
-/
namespace Go.Proofs.YtjoeamlidmmioaaGreatDoor
open Go.RowKit
set_option linter.unusedVariables false
set_option maxRecDepth 100000

/-- The byte with its bit 32 laid. -/
def lowN (n : Nat) : Nat := n ||| 32
theorem lowN_all : ∀ n : Fin 256, (97 ≤ n.val ∧ n.val ≤ 122 → lowN n.val = n.val) ∧ (65 ≤ n.val ∧ n.val ≤ 90 → lowN n.val = n.val + 32) ∧ ((97 ≤ lowN n.val ∧ lowN n.val ≤ 122) → (97 ≤ n.val ∧ n.val ≤ 122) ∨ (65 ≤ n.val ∧ n.val ≤ 90)) ∧ lowN n.val < 256 := by decide +kernel
theorem lowN_of {n : Nat} (h : n < 256) : (97 ≤ n ∧ n ≤ 122 → lowN n = n) ∧ (65 ≤ n ∧ n ≤ 90 → lowN n = n + 32) ∧ ((97 ≤ lowN n ∧ lowN n ≤ 122) → (97 ≤ n ∧ n ≤ 122) ∨ (65 ≤ n ∧ n ≤ 90)) ∧ lowN n < 256 := lowN_all ⟨n, h⟩
theorem or_all : ∀ n : Fin 256, bits .or .u8 (n.val : Int) 32 = ((lowN n.val : Nat) : Int) := by decide +kernel
set_option maxHeartbeats 400000 in
theorem lower_any (n : Nat) (h : n < 256) (w : World) : Calls Tryz.prog 113 #[.int .u8 (n : Nat)] w fun e w' => e = .returned (.int .u8 (lowN n : Nat)) ∧ w = w' := by
  have e1 : bits .or .u8 (n : Int) 32 = ((lowN n : Nat) : Int) := or_all ⟨n, h⟩
  generalize lowN n = l at *
  go_enter Tryz.func113, Tryz.ntmps113
  go_wp2
  go_ret
  exact ⟨rfl, rfl⟩
theorem six_nat (c : UInt8) : sixX c = if 48 ≤ c.toNat ∧ c.toNat ≤ 57 then some (c.toNat - 48) else if 97 ≤ c.toNat ∧ c.toNat ≤ 102 then some (c.toNat - 87) else if 65 ≤ c.toNat ∧ c.toNat ≤ 70 then some (c.toNat - 55) else none := by
  unfold sixX digX
  simp [UInt8.le_iff_toNat_le]
/-- The digit of a byte, as the program reads it. -/
theorem digit_kinds (c : UInt8) (b : Nat) (hb : b = 10 ∨ b = 16) : (48 ≤ c.toNat ∧ c.toNat ≤ 57 ∧ ∀ v, digitX b (some v) c = some (b * v + (c.toNat - 48))) ∨
    (¬ (48 ≤ c.toNat ∧ c.toNat ≤ 57) ∧ 97 ≤ lowN c.toNat ∧ lowN c.toNat ≤ 122 ∧ c.toNat ≠ 95 ∧ lowN c.toNat - 87 < b ∧ ∀ v, digitX b (some v) c = some (b * v + (lowN c.toNat - 87))) ∨
    (¬ (48 ≤ c.toNat ∧ c.toNat ≤ 57) ∧ 97 ≤ lowN c.toNat ∧ lowN c.toNat ≤ 122 ∧ c.toNat ≠ 95 ∧ b ≤ lowN c.toNat - 87 ∧ ∀ v, digitX b (some v) c = none) ∨
    (¬ (48 ≤ c.toNat ∧ c.toNat ≤ 57) ∧ ¬ (97 ≤ lowN c.toNat ∧ lowN c.toNat ≤ 122) ∧ ∀ v, digitX b (some v) c = none) := by
  have hc : c.toNat < 256 := c.toNat_lt
  obtain ⟨h1, h2, h3, h4⟩ := lowN_of hc
  have hs := six_nat c
  by_cases hd : 48 ≤ c.toNat ∧ c.toNat ≤ 57
  · left
    refine ⟨hd.1, hd.2, fun v => ?_⟩
    rw [if_pos hd] at hs
    simp only [digitX, hs, Option.bind_some]
    rw [if_pos (by omega)]
  · right
    rw [if_neg hd] at hs
    by_cases ha : 97 ≤ c.toNat ∧ c.toNat ≤ 122
    · have hl := h1 ha
      by_cases hf : c.toNat ≤ 102
      · rw [if_pos ⟨ha.1, hf⟩] at hs
        by_cases hx : c.toNat - 87 < b
        · left
          refine ⟨hd, by omega, by omega, by omega, by omega, fun v => ?_⟩
          simp only [digitX, hs, Option.bind_some]
          rw [if_pos hx, hl]
        · right; left
          refine ⟨hd, by omega, by omega, by omega, by omega, fun v => ?_⟩
          simp only [digitX, hs, Option.bind_some]
          rw [if_neg hx]
      · rw [if_neg (by omega), if_neg (by omega)] at hs
        right; left
        refine ⟨hd, by omega, by omega, by omega, by omega, fun v => ?_⟩
        simp only [digitX, hs, Option.bind_some, Option.bind_none]
    · by_cases hA : 65 ≤ c.toNat ∧ c.toNat ≤ 90
      · have hl := h2 hA
        rw [if_neg (by omega)] at hs
        by_cases hf : c.toNat ≤ 70
        · rw [if_pos ⟨hA.1, hf⟩] at hs
          by_cases hx : c.toNat - 55 < b
          · left
            refine ⟨hd, by omega, by omega, by omega, by omega, fun v => ?_⟩
            simp only [digitX, hs, Option.bind_some]
            rw [if_pos hx, hl]
            congr 2
          · right; left
            refine ⟨hd, by omega, by omega, by omega, by omega, fun v => ?_⟩
            simp only [digitX, hs, Option.bind_some]
            rw [if_neg hx]
        · rw [if_neg (by omega)] at hs
          right; left
          refine ⟨hd, by omega, by omega, by omega, by omega, fun v => ?_⟩
          simp only [digitX, hs, Option.bind_some, Option.bind_none]
      · rw [if_neg (by omega), if_neg (by omega)] at hs
        right; right
        refine ⟨hd, fun hh => ?_, fun v => ?_⟩
        · rcases h3 hh with k | k
          · exact ha k
          · exact hA k
        · simp only [digitX, hs, Option.bind_some, Option.bind_none]
theorem digit_none (b : Nat) (l : List UInt8) : l.foldl (digitX b) none = none := by
  induction l with
  | nil => rfl
  | cons c r ih => exact ih
theorem fold_take (b : Nat) (s : ByteArray) (k : Nat) (h : k < s.size) (v : Option Nat) : (s.data.toList.take (k + 1)).foldl (digitX b) v = digitX b ((s.data.toList.take k).foldl (digitX b) v) s[k] := by
  have e : s.data.toList.take (k + 1) = s.data.toList.take k ++ [s[k]] := by rw [List.take_succ_eq_append_getElem (by simpa using h)]; rfl
  rw [e, List.foldl_append]; rfl
theorem fold_bad (b : Nat) (s : ByteArray) (k : Nat) (h : (s.data.toList.take k).foldl (digitX b) (some 0) = none) : s.data.toList.foldl (digitX b) (some 0) = none := by
  conv => lhs; rw [← List.take_append_drop k s.data.toList]
  rw [List.foldl_append, h, digit_none]
theorem pow_step {b v k e : Nat} (hv : v < b ^ k) (he : e < b) : b * v + e < b ^ (k + 1) := by
  rw [Nat.pow_succ, Nat.mul_comm _ b]
  have h : b * (v + 1) ≤ b * b ^ k := Nat.mul_le_mul_left b hv
  rw [Nat.mul_add] at h
  omega
def puRes (o : Option Nat) : Value := match o with
  | some v => .tuple #[.int .u64 (v : Nat), .nilIface]
  | none => .tuple #[.int .u64 0, .iface 153 (.int .i64 2)]
def PuPost (w : World) (o : Option Nat) (e : Ending) (w' : World) : Prop := e = .returned (puRes o) ∧ Below w.heap.size w w'
theorem size_ne {s : ByteArray} (h : s.size ≠ 0) : s.data.toList ≠ [] := fun e => h (by have : s.data.toList.length = 0 := by rw [e]; rfl
                                                                                        rw [str_len] at this; exact this)

set_option maxHeartbeats 8000000 in
theorem pu10_any (s : ByteArray) (w : World) (hs : s.size ≤ 7) : Calls Tryz.prog 110 #[.string s, .int .i64 10, .int .i64 32] w (PuPost w (digsX 10 s.data.toList)) := by
  by_cases h0 : s.size = 0
  · have hn : s.data.toList = [] := List.length_eq_zero_iff.1 (by rw [str_len]; exact h0)
    have he : s.toList = [] := by rw [Lib.toList_data, hn]
    have he2 : s.toList.isEmpty = true := by rw [he]; rfl
    have HP : Hid (digsX 10 s.data.toList = none) := hid (by rw [hn]; rfl)
    clear hn hs
    go_enter Tryz.func110, Tryz.ntmps110
    go_wp2
    go_ret2
    exact ⟨by rw [HP.out]; rfl, Below.refl _ _⟩
  · have hne := size_ne h0
    have he2 : s.toList.isEmpty = false := by rw [Lib.toList_data]; cases hx : s.data.toList with
      | nil => exact absurd hx hne
      | cons => rfl
    have he3 : (!s.toList.isEmpty) = true := by rw [he2]; rfl
    have he4 : (s.toList == []) = false := by rw [Lib.toList_data]; cases hx : s.data.toList with
      | nil => exact absurd hx hne
      | cons => rfl
    have HP : Hid (digsX 10 s.data.toList = s.data.toList.foldl (digitX 10) (some 0)) := hid (by unfold digsX; rw [if_neg hne])
    obtain ⟨cap, w1, hrun, hrow, hb, hcap, hz⟩ := run_bytes w s
    obtain ⟨hr1, hr2, hr3⟩ := hrow
    have HR := hid hr2
    have HB := hid hb
    have HF := hid (fun k hk => fold_take 10 s k hk (some 0))
    have HX := hid (fun k hk => fold_bad 10 s k hk)
    have HC : Hid (∀ k (hk : k < s.size), s.data.toList[k]? = some (s[k]'hk)) := hid (fun k hk => by simp [hk]; rfl)
    clear hr1 hr2 hr3 hb hz hne hcap
    have hmv : IntKind.u64.wrap (IntKind.u64.wrap 4294967296 - 1) = 4294967295 := by
      rw [IntKind.wrap_u64, IntKind.wrap_u64]
      decide
    go_enter Tryz.func110, Tryz.ntmps110
    go_wp2
    go_loop [12, 13, 101] (fun vu vn vi => ∃ (k v : Nat) (a : Int), vu = .bool false ∧ vn = .int .u64 a ∧ vi = .int .i64 k ∧ k ≤ s.size ∧ Hid (a = (v : Int) ∧ v < 10 ^ k ∧ (s.data.toList.take k).foldl (digitX 10) (some 0) = some v)) (fun _ _ vi => s.size - (intOf vi).toNat)
    case atStart => exact ⟨0, 0, 0, rfl, rfl, rfl, Nat.zero_le _, rfl, by decide, rfl⟩
    case round =>
      obtain ⟨k, v, a, rfl, rfl, rfl, hk, hh⟩ := hrel
      obtain ⟨ha, hv, hI⟩ := hh.out
      clear hh
      by_cases hlt : k < s.size
      · have c1 := HR.out k s[k] (HC.out k hlt)
        have hf := HF.out k hlt
        rw [hI] at hf
        have hc : s[k].toNat < 256 := s[k].toNat_lt
        have HL : Hid (∀ wx, Calls Tryz.prog 113 #[.int .u8 (s[k].toNat : Nat)] wx fun e w' => e = .returned (.int .u8 (lowN s[k].toNat : Nat)) ∧ wx = w') := hid (fun wx => lower_any _ hc wx)
        have hpow : 10 ^ k ≤ 10 ^ 7 := Nat.pow_le_pow_right (by decide) (by omega)
        have hvv : v < 10000000 := Nat.lt_of_lt_of_le hv hpow
        have a0 : 0 ≤ a := by omega
        have a1 : a < 10000000 := by omega
        have hll := (lowN_of hc).2.2.2
        have HBAD : Hid (digitX 10 (some v) s[k] = none → digsX 10 s.data.toList = none) := hid (fun h => HP.out.trans (HX.out (k + 1) (hf.trans h)))
        have hkk := digit_kinds s[k] 10 (by decide)
        rcases hkk with ⟨d1, d2, d3⟩ | ⟨d1, d2, d3, d4, d5, d6⟩ | ⟨d1, d2, d3, d4, d5, d6⟩ | ⟨d1, d2, d3⟩
        · have HN : Hid (a * 10 + ((s[k].toNat : Int) - 48) = ((10 * v + (s[k].toNat - 48) : Nat) : Int) ∧ 10 * v + (s[k].toNat - 48) < 10 ^ (k + 1) ∧ (s.data.toList.take (k + 1)).foldl (digitX 10) (some 0) = some (10 * v + (s[k].toNat - 48))) := hid ⟨by omega, pow_step hv (by omega), hf.trans (d3 v)⟩
          clear d3 hf hv hpow ha hvv hI
          generalize lowN s[k].toNat = lo at *
          generalize hcn : s[k].toNat = c at *
          clear hcn
          go_wp2
          refine ⟨⟨k + 1, 10 * v + (c - 48), a * 10 + ((c : Int) - 48), rfl, (by first | rfl | (congr 1; omega)), (by first | rfl | go_num | (congr 1; omega)), by omega, HN⟩, by simp [intOf]; omega⟩
        · have HN : Hid (a * 10 + ((lowN s[k].toNat : Int) - 97 + 10) = ((10 * v + (lowN s[k].toNat - 87) : Nat) : Int) ∧ 10 * v + (lowN s[k].toNat - 87) < 10 ^ (k + 1) ∧ (s.data.toList.take (k + 1)).foldl (digitX 10) (some 0) = some (10 * v + (lowN s[k].toNat - 87))) := hid ⟨by omega, pow_step hv (by omega), hf.trans (d6 v)⟩
          clear d6 hf hv hpow ha hvv hI
          generalize lowN s[k].toNat = lo at *
          generalize hcn : s[k].toNat = c at *
          clear hcn
          first
            | (exfalso; omega)
            | (have d5' : (lo : Int) - 97 + 10 < 10 := by omega
               clear d5
               go_wp2_with (go_at_call 113; (with_reducible refine (HL.out _).mono ?_); rintro e w' ⟨rfl, rfl⟩)
               all_goals refine ⟨⟨k + 1, 10 * v + (lo - 87), a * 10 + ((lo : Int) - 97 + 10), rfl, (by first | rfl | (congr 1; omega)), (by first | rfl | go_num | (congr 1; omega)), by omega, HN⟩, by simp [intOf]; omega⟩)
        · have HN := hid (HBAD.out (d6 v))
          clear d6 hf hv hpow ha hvv hI
          generalize lowN s[k].toNat = lo at *
          generalize hcn : s[k].toNat = c at *
          clear hcn
          have d5' : 10 ≤ (lo : Int) - 97 + 10 := by omega
          clear d5
          go_wp2_with (go_at_call 113; (with_reducible refine (HL.out _).mono ?_); rintro e w' ⟨rfl, rfl⟩)
          all_goals (go_ret2; exact ⟨by rw [HN.out]; rfl, HB.out⟩)
        · have HN := hid (HBAD.out (d3 v))
          clear d3 hf hv hpow ha hvv hI
          by_cases h95 : s[k].toNat = 95
          · have HL5 : Hid (∀ wx, Calls Tryz.prog 113 #[.int .u8 95] wx fun e w' => e = .returned (.int .u8 127) ∧ wx = w') := hid (fun wx => lower_any 95 (by decide) wx)
            rw [h95] at c1
            clear h95 hc hll d1 d2 HL
            go_wp2_with (go_at_call 113; (with_reducible refine (HL5.out _).mono ?_); rintro e w' ⟨rfl, rfl⟩)
            all_goals (go_ret2; exact ⟨by rw [HN.out]; rfl, HB.out⟩)
          · generalize lowN s[k].toNat = lo at *
            generalize hcn : s[k].toNat = c at *
            clear hcn
            go_wp2_with (go_at_call 113; (with_reducible refine (HL.out _).mono ?_); rintro e w' ⟨rfl, rfl⟩)
            all_goals (go_ret2; exact ⟨by rw [HN.out]; rfl, HB.out⟩)
      · obtain rfl : k = s.size := by omega
        have HN : Hid (digsX 10 s.data.toList = some v) := hid (by rw [HP.out, ← hI, List.take_of_length_le (by rw [str_len]; exact Nat.le_refl _)])
        subst ha
        have hkd : decide (s.size < s.size) = false := by simp
        clear hv hI
        go_wp2
        go_ret2
        exact ⟨by rw [HN.out]; rfl, HB.out⟩

set_option maxHeartbeats 8000000 in
theorem pu16_any (s : ByteArray) (w : World) (hs : s.size ≤ 6) : Calls Tryz.prog 110 #[.string s, .int .i64 16, .int .i64 32] w (PuPost w (digsX 16 s.data.toList)) := by
  by_cases h0 : s.size = 0
  · have hn : s.data.toList = [] := List.length_eq_zero_iff.1 (by rw [str_len]; exact h0)
    have he : s.toList = [] := by rw [Lib.toList_data, hn]
    have he2 : s.toList.isEmpty = true := by rw [he]; rfl
    have HP : Hid (digsX 16 s.data.toList = none) := hid (by rw [hn]; rfl)
    clear hn hs
    go_enter Tryz.func110, Tryz.ntmps110
    go_wp2
    go_ret2
    exact ⟨by rw [HP.out]; rfl, Below.refl _ _⟩
  · have hne := size_ne h0
    have he2 : s.toList.isEmpty = false := by rw [Lib.toList_data]; cases hx : s.data.toList with
      | nil => exact absurd hx hne
      | cons => rfl
    have he3 : (!s.toList.isEmpty) = true := by rw [he2]; rfl
    have he4 : (s.toList == []) = false := by rw [Lib.toList_data]; cases hx : s.data.toList with
      | nil => exact absurd hx hne
      | cons => rfl
    have HP : Hid (digsX 16 s.data.toList = s.data.toList.foldl (digitX 16) (some 0)) := hid (by unfold digsX; rw [if_neg hne])
    obtain ⟨cap, w1, hrun, hrow, hb, hcap, hz⟩ := run_bytes w s
    obtain ⟨hr1, hr2, hr3⟩ := hrow
    have HR := hid hr2
    have HB := hid hb
    have HF := hid (fun k hk => fold_take 16 s k hk (some 0))
    have HX := hid (fun k hk => fold_bad 16 s k hk)
    have HC : Hid (∀ k (hk : k < s.size), s.data.toList[k]? = some (s[k]'hk)) := hid (fun k hk => by simp [hk]; rfl)
    clear hr1 hr2 hr3 hb hz hne hcap
    have hmv : IntKind.u64.wrap (IntKind.u64.wrap 4294967296 - 1) = 4294967295 := by
      rw [IntKind.wrap_u64, IntKind.wrap_u64]
      decide
    go_enter Tryz.func110, Tryz.ntmps110
    go_wp2
    go_loop [12, 13, 101] (fun vu vn vi => ∃ (k v : Nat) (a : Int), vu = .bool false ∧ vn = .int .u64 a ∧ vi = .int .i64 k ∧ k ≤ s.size ∧ Hid (a = (v : Int) ∧ v < 16 ^ k ∧ (s.data.toList.take k).foldl (digitX 16) (some 0) = some v)) (fun _ _ vi => s.size - (intOf vi).toNat)
    case atStart => exact ⟨0, 0, 0, rfl, rfl, rfl, Nat.zero_le _, rfl, by decide, rfl⟩
    case round =>
      obtain ⟨k, v, a, rfl, rfl, rfl, hk, hh⟩ := hrel
      obtain ⟨ha, hv, hI⟩ := hh.out
      clear hh
      by_cases hlt : k < s.size
      · have c1 := HR.out k s[k] (HC.out k hlt)
        have hf := HF.out k hlt
        rw [hI] at hf
        have hc : s[k].toNat < 256 := s[k].toNat_lt
        have HL : Hid (∀ wx, Calls Tryz.prog 113 #[.int .u8 (s[k].toNat : Nat)] wx fun e w' => e = .returned (.int .u8 (lowN s[k].toNat : Nat)) ∧ wx = w') := hid (fun wx => lower_any _ hc wx)
        have hpow : 16 ^ k ≤ 16 ^ 6 := Nat.pow_le_pow_right (by decide) (by omega)
        have hvv : v < 16777216 := Nat.lt_of_lt_of_le hv hpow
        have a0 : 0 ≤ a := by omega
        have a1 : a < 16777216 := by omega
        have hll := (lowN_of hc).2.2.2
        have HBAD : Hid (digitX 16 (some v) s[k] = none → digsX 16 s.data.toList = none) := hid (fun h => HP.out.trans (HX.out (k + 1) (hf.trans h)))
        have hkk := digit_kinds s[k] 16 (by decide)
        rcases hkk with ⟨d1, d2, d3⟩ | ⟨d1, d2, d3, d4, d5, d6⟩ | ⟨d1, d2, d3, d4, d5, d6⟩ | ⟨d1, d2, d3⟩
        · have HN : Hid (a * 16 + ((s[k].toNat : Int) - 48) = ((16 * v + (s[k].toNat - 48) : Nat) : Int) ∧ 16 * v + (s[k].toNat - 48) < 16 ^ (k + 1) ∧ (s.data.toList.take (k + 1)).foldl (digitX 16) (some 0) = some (16 * v + (s[k].toNat - 48))) := hid ⟨by omega, pow_step hv (by omega), hf.trans (d3 v)⟩
          clear d3 hf hv hpow ha hvv hI
          generalize lowN s[k].toNat = lo at *
          generalize hcn : s[k].toNat = c at *
          clear hcn
          go_wp2
          refine ⟨⟨k + 1, 16 * v + (c - 48), a * 16 + ((c : Int) - 48), rfl, (by first | rfl | (congr 1; omega)), (by first | rfl | go_num | (congr 1; omega)), by omega, HN⟩, by simp [intOf]; omega⟩
        · have HN : Hid (a * 16 + ((lowN s[k].toNat : Int) - 97 + 10) = ((16 * v + (lowN s[k].toNat - 87) : Nat) : Int) ∧ 16 * v + (lowN s[k].toNat - 87) < 16 ^ (k + 1) ∧ (s.data.toList.take (k + 1)).foldl (digitX 16) (some 0) = some (16 * v + (lowN s[k].toNat - 87))) := hid ⟨by omega, pow_step hv (by omega), hf.trans (d6 v)⟩
          clear d6 hf hv hpow ha hvv hI
          generalize lowN s[k].toNat = lo at *
          generalize hcn : s[k].toNat = c at *
          clear hcn
          first
            | (exfalso; omega)
            | (have d5' : (lo : Int) - 97 + 10 < 16 := by omega
               clear d5
               go_wp2_with (go_at_call 113; (with_reducible refine (HL.out _).mono ?_); rintro e w' ⟨rfl, rfl⟩)
               all_goals refine ⟨⟨k + 1, 16 * v + (lo - 87), a * 16 + ((lo : Int) - 97 + 10), rfl, (by first | rfl | (congr 1; omega)), (by first | rfl | go_num | (congr 1; omega)), by omega, HN⟩, by simp [intOf]; omega⟩)
        · have HN := hid (HBAD.out (d6 v))
          clear d6 hf hv hpow ha hvv hI
          generalize lowN s[k].toNat = lo at *
          generalize hcn : s[k].toNat = c at *
          clear hcn
          have d5' : 16 ≤ (lo : Int) - 97 + 10 := by omega
          clear d5
          go_wp2_with (go_at_call 113; (with_reducible refine (HL.out _).mono ?_); rintro e w' ⟨rfl, rfl⟩)
          all_goals (go_ret2; exact ⟨by rw [HN.out]; rfl, HB.out⟩)
        · have HN := hid (HBAD.out (d3 v))
          clear d3 hf hv hpow ha hvv hI
          by_cases h95 : s[k].toNat = 95
          · have HL5 : Hid (∀ wx, Calls Tryz.prog 113 #[.int .u8 95] wx fun e w' => e = .returned (.int .u8 127) ∧ wx = w') := hid (fun wx => lower_any 95 (by decide) wx)
            rw [h95] at c1
            clear h95 hc hll d1 d2 HL
            go_wp2_with (go_at_call 113; (with_reducible refine (HL5.out _).mono ?_); rintro e w' ⟨rfl, rfl⟩)
            all_goals (go_ret2; exact ⟨by rw [HN.out]; rfl, HB.out⟩)
          · generalize lowN s[k].toNat = lo at *
            generalize hcn : s[k].toNat = c at *
            clear hcn
            go_wp2_with (go_at_call 113; (with_reducible refine (HL.out _).mono ?_); rintro e w' ⟨rfl, rfl⟩)
            all_goals (go_ret2; exact ⟨by rw [HN.out]; rfl, HB.out⟩)
      · obtain rfl : k = s.size := by omega
        have HN : Hid (digsX 16 s.data.toList = some v) := hid (by rw [HP.out, ← hI, List.take_of_length_le (by rw [str_len]; exact Nat.le_refl _)])
        subst ha
        have hkd : decide (s.size < s.size) = false := by simp
        clear hv hI
        go_wp2
        go_ret2
        exact ⟨by rw [HN.out]; rfl, HB.out⟩
end Go.Proofs.YtjoeamlidmmioaaGreatDoor

