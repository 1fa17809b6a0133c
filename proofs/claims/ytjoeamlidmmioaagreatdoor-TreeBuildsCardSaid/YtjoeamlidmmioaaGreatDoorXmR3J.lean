import Derived.Test.YtjoeamlidmmioaaGreatDoorXmR2J
/-
  LAYER 11 (xml), THE DOCUMENT's: names; a rune's bytes.
-/
namespace Go.Proofs.YtjoeamlidmmioaaGreatDoor
open Go.RowKit
set_option linter.unusedVariables false
set_option maxRecDepth 100000

theorem toL_nil : (⟨#[]⟩ : ByteArray).toList = [] := by rw [Lib.toList_data]
theorem mkE_nil : (mk ([] : List UInt8)).toList.isEmpty = true := by rw [Lib.toList_data, mk_data]; rfl
theorem mkE_cons {a : List UInt8} (h : a ≠ []) : ((mk a).toList == (⟨#[]⟩ : ByteArray).toList) = false ∧ (mk a).toList.isEmpty = false ∧ ((mk a).toList == []) = false := by
  rw [Lib.toList_data, mk_data]
  rw [toL_nil]
  cases a with
  | nil => exact absurd rfl h
  | cons c r => exact ⟨rfl, rfl, rfl⟩
set_option maxHeartbeats 8000000 in
theorem name_any (a : List UInt8) (ha : a.length ≤ 1000000) (w : World) :
    Calls Tryz.prog 58 #[.string (mk a)] w fun e w' => e = .returned (.string (mk (nameX a).1)) ∧ w = w' := by
  have hms : (mk a).size = a.length := mk_size a
  by_cases h0 : a = []
  · subst h0
    go_enter Tryz.func58, Tryz.ntmps58
    have q1 := mkE_nil
    go_wp2
    go_ret
    exact ⟨rfl, rfl⟩
  obtain ⟨q1, q2, q3⟩ := mkE_cons h0
  obtain ⟨c, r, rfl⟩ : ∃ c r, a = c :: r := by cases a with | nil => exact absurd rfl h0 | cons c r => exact ⟨c, r, rfl⟩
  have x0 := fun wx => ix_at (a := c :: r) (k := 0) (c := c) rfl (q := 0) rfl wx
  have HB := hid (first_any c)
  cases hbc : begX c with
  | false =>
    rw [hbc] at HB
    have hn : (nameX (c :: r)).1 = [] := by simp [nameX, hbc]
    rw [hn]
    go_enter Tryz.func58, Tryz.ntmps58
    go_wp2_with (go_at_call 88; (with_reducible refine (HB.out _).mono ?_); rintro e w1 ⟨rfl, rfl⟩)
    go_ret
    exact ⟨rfl, rfl⟩
  | true =>
    rw [hbc] at HB
    have hN : 1 ≤ (nameX (c :: r)).1.length := by simp [nameX, hbc]
    have hN2 := nameX_len (c :: r)
    have HT := hid (name_take (c :: r)).1
    have HLt := hid (fun k (h : k < (nameX (c :: r)).1.length) => name_lt h)
    have HEn := hid (fun x (h : (c :: r)[(nameX (c :: r)).1.length]? = some x) => name_end h)
    generalize (c :: r) = a at *
    generalize hNN : (nameX a).1.length = N at *
    generalize (nameX a).1 = nm at *
    go_enter Tryz.func58, Tryz.ntmps58
    go_wp2_with (go_at_call 88; (with_reducible refine (HB.out _).mono ?_); rintro e w1 ⟨rfl, rfl⟩)
    clear HB x0
    go_loopw [3] (fun i wr => ∃ j : Nat, j ≤ N ∧ 1 ≤ j ∧ i = .int .i64 j ∧ w = wr) (fun i _ => N - (intOf i).toNat)
    case atStart => exact ⟨1, hN, Nat.le_refl _, rfl, (by first | trivial | rfl)⟩
    case round =>
      obtain ⟨j, hj, hj1, rfl, rfl⟩ := hrel
      by_cases hlt : j < N
      · obtain ⟨x, hx, hk⟩ := HLt.out j hlt
        have h1 : ((j : Int) < ((mk a).size : Int)) := by have := (List.getElem?_eq_some_iff.1 hx).1; omega
        have x1 := fun wx => ix_at hx (q := (j : Int)) rfl wx
        have H1 := hid (first_any x)
        have H2 := hid (digit_any x)
        rcases hk with hk | ⟨hk, -, hc⟩
        · rw [hk] at H1
          go_wp2_with (go_at_call 88; (with_reducible refine (H1.out _).mono ?_); rintro e w1 ⟨rfl, rfl⟩)
          go_roundw
          case rel => exact ⟨j + 1, by omega, by omega, by go_num, (by first | trivial | rfl)⟩
          case measure => simp [intOf]; omega
        · rw [hk] at H1
          cases hd : digX x with
          | true =>
            rw [hd] at H2
            go_wp2_with (first | (go_at_call 88; (with_reducible refine (H1.out _).mono ?_); rintro e w1 ⟨rfl, rfl⟩) | (go_at_call 89; (with_reducible refine (H2.out _).mono ?_); rintro e w1 ⟨rfl, rfl⟩))
            go_roundw
            case rel => exact ⟨j + 1, by omega, by omega, by go_num, (by first | trivial | rfl)⟩
            case measure => simp [intOf]; omega
          | false =>
            rw [hd] at H2
            rw [conX, hd] at hc
            by_cases e46 : x = 46
            · have hxe : ((x.toNat : Nat) : Int) = 46 := by rw [e46]; rfl
              rw [hxe] at x1 H1 H2
              clear e46 hc
              go_wp2_with (first | (go_at_call 88; (with_reducible refine (H1.out _).mono ?_); rintro e w1 ⟨rfl, rfl⟩) | (go_at_call 89; (with_reducible refine (H2.out _).mono ?_); rintro e w1 ⟨rfl, rfl⟩))
              go_roundw
              case rel => exact ⟨j + 1, by omega, by omega, by go_num, (by first | trivial | rfl)⟩
              case measure => simp [intOf]; omega
            · have e45 : x = 45 := by simpa [e46] using hc
              have hxe : ((x.toNat : Nat) : Int) = 45 := by rw [e45]; rfl
              rw [hxe] at x1 H1 H2
              clear e46 e45 hc
              go_wp2_with (first | (go_at_call 88; (with_reducible refine (H1.out _).mono ?_); rintro e w1 ⟨rfl, rfl⟩) | (go_at_call 89; (with_reducible refine (H2.out _).mono ?_); rintro e w1 ⟨rfl, rfl⟩))
              go_roundw
              case rel => exact ⟨j + 1, by omega, by omega, by go_num, (by first | trivial | rfl)⟩
              case measure => simp [intOf]; omega
      · obtain rfl : j = N := by omega
        have x2 := fun wx => s_to (a := a) (k := j) (by omega) (q := (j : Int)) rfl wx
        rw [HT.out] at x2
        by_cases h2 : j < a.length
        · have h1 : ((j : Int) < ((mk a).size : Int)) := by omega
          have hx : a[j]? = some a[j] := by simp [h2]
          obtain ⟨k1, k2⟩ := HEn.out _ hx
          generalize a[j] = x at hx k1 k2
          have k3 := k2 (by omega)
          unfold conX at k3
          simp at k3
          obtain ⟨⟨d1, d2⟩, d3⟩ := k3
          have x1 := fun wx => ix_at hx (q := (j : Int)) rfl wx
          have H1 := hid (first_any x)
          have H2 := hid (digit_any x)
          rw [k1] at H1
          rw [d1] at H2
          have q4 := u8_neq (q := 46) rfl d2
          have q5 := u8_neq (q := 45) rfl d3
          clear d2 d3
          go_wp2_with (first | (go_at_call 88; (with_reducible refine (H1.out _).mono ?_); rintro e w1 ⟨rfl, rfl⟩) | (go_at_call 89; (with_reducible refine (H2.out _).mono ?_); rintro e w1 ⟨rfl, rfl⟩))
          go_ret
          exact ⟨rfl, rfl⟩
        · have h1 : ¬ ((j : Int) < ((mk a).size : Int)) := by omega
          go_wp2
          go_ret
          exact ⟨rfl, rfl⟩
theorem conv_row (w : World) (L : List UInt8) (V : Array Value) (hV : V.toList = L.map (fun c => Value.int .u8 (c.toNat : Nat))) (n : Nat) (hn : n = L.length) :
    (convert 70 9 (.slice (some ⟨w.heap.size, 0, none⟩) n n)).run Tryz.prog (w.alloc (.cells V 5)) = .ok (.string (mk L)) (w.alloc (.cells V 5)) := by
  refine run_string hn (fun j c hj => ?_)
  rw [(own.new w V 5).cell j, ← Array.getElem?_toList, hV, List.getElem?_map, hj]
  rfl
theorem u8_of {n : Nat} (h : n < 256) : (((n.toUInt8).toNat : Nat) : Int) = n := by
  have : n.toUInt8.toNat = n % 256 := by simp [Nat.toUInt8]
  rw [this]; omega
set_option maxHeartbeats 8000000 in
theorem utf8_any (n : Nat) (w : World) :
    Calls Tryz.prog 87 #[.int .i64 (n : Nat)] w fun e w' => e = .returned (if runeX n then .tuple #[.string (mk (utfX n)), .bool true] else .tuple #[.string ⟨#[]⟩, .bool false]) ∧ Below w.heap.size w w' := by
  by_cases hr : runeX n = true
  · rw [if_pos hr]
    have hr2 : 1 ≤ n ∧ n ≤ 1114111 ∧ (n < 55296 ∨ 57343 < n) := by
      simp [runeX] at hr
      omega
    have a1 : ¬ ((n : Int) < 1) := by omega
    have a2 : ¬ ((1114111 : Int) < (n : Int)) := by omega
    have ha : ((55296 : Int) ≤ (n : Int) ∧ ¬ ((n : Int) ≤ 57343)) ∨ ¬ ((55296 : Int) ≤ (n : Int)) := by omega
    have hB : ∀ V : Array Value, Below w.heap.size w (w.alloc (.cells V 5)) := fun V => (Below.refl _ _).alloc (Nat.le_refl _) _
    by_cases c1 : (n : Int) < 128
    · have a3 : ¬ ((55296 : Int) ≤ (n : Int)) := by omega
      have hcv := conv_row w (utfX n) #[.int .u8 (n : Nat)] (by
        unfold utfX
        rw [if_pos (by omega)]
        simp only [List.map_cons, List.map_nil]
        rw [u8_of (by omega)]) 1 (by unfold utfX; rw [if_pos (by omega)]; rfl)
      clear ha hr hr2
      go_enter Tryz.func87, Tryz.ntmps87
      go_wp2
      go_ret2
      exact ⟨rfl, hB _⟩
    · by_cases c2 : (n : Int) < 2048
      · have a3 : ¬ ((55296 : Int) ≤ (n : Int)) := by omega
        have hcv := conv_row w (utfX n) #[.int .u8 (192 + (n : Int) / 64), .int .u8 (128 + (n : Int) % 64)] (by
          unfold utfX
          rw [if_neg (by omega), if_pos (by omega)]
          simp only [List.map_cons, List.map_nil]
          rw [u8_of (by omega), u8_of (by omega)]
          simp) 2 (by unfold utfX; rw [if_neg (by omega), if_pos (by omega)]; rfl)
        clear ha hr hr2
        go_enter Tryz.func87, Tryz.ntmps87
        go_wp2
        go_ret2
        exact ⟨rfl, hB _⟩
      · by_cases c3 : (n : Int) < 65536
        · have hcv := conv_row w (utfX n) #[.int .u8 (224 + (n : Int) / 4096), .int .u8 (128 + (n : Int) / 64 % 64), .int .u8 (128 + (n : Int) % 64)] (by
            unfold utfX
            rw [if_neg (by omega), if_neg (by omega), if_pos (by omega)]
            simp only [List.map_cons, List.map_nil]
            rw [u8_of (by omega), u8_of (by omega), u8_of (by omega)]
            simp) 3 (by unfold utfX; rw [if_neg (by omega), if_neg (by omega), if_pos (by omega)]; rfl)
          clear hr hr2
          rcases ha with ⟨a3, a4⟩ | a3
          all_goals
            go_enter Tryz.func87, Tryz.ntmps87
            go_wp2
            go_ret2
            exact ⟨rfl, hB _⟩
        · have a3 : (55296 : Int) ≤ (n : Int) := by omega
          have a4 : ¬ ((n : Int) ≤ 57343) := by omega
          have hcv := conv_row w (utfX n) #[.int .u8 (240 + (n : Int) / 262144), .int .u8 (128 + (n : Int) / 4096 % 64), .int .u8 (128 + (n : Int) / 64 % 64), .int .u8 (128 + (n : Int) % 64)] (by
            unfold utfX
            rw [if_neg (by omega), if_neg (by omega), if_neg (by omega)]
            simp only [List.map_cons, List.map_nil]
            rw [u8_of (by omega), u8_of (by omega), u8_of (by omega), u8_of (by omega)]
            simp) 4 (by unfold utfX; rw [if_neg (by omega), if_neg (by omega), if_neg (by omega)]; rfl)
          have hn := hr2.2.1
          clear ha hr hr2
          go_enter Tryz.func87, Tryz.ntmps87
          go_wp2
          go_ret2
          exact ⟨rfl, hB _⟩
  · rw [if_neg hr]
    have hr2 : n < 1 ∨ 1114111 < n ∨ (55296 ≤ n ∧ n ≤ 57343) := by
      simp [runeX] at hr
      omega
    go_enter Tryz.func87, Tryz.ntmps87
    by_cases a1 : ((n : Int) < 1)
    · go_wp2
      go_ret2
      exact ⟨rfl, Below.refl _ _⟩
    · by_cases a2 : ((1114111 : Int) < (n : Int))
      · go_wp2
        go_ret2
        exact ⟨rfl, Below.refl _ _⟩
      · have a3 : (55296 : Int) ≤ (n : Int) := by omega
        have a4 : ((n : Int) ≤ 57343) := by omega
        go_wp2
        go_ret2
        exact ⟨rfl, Below.refl _ _⟩
end Go.Proofs.YtjoeamlidmmioaaGreatDoor

