import Derived.Test.YtjoeamlidmmioaaGreatDoorXmR4J
/-
  LAYER 11 (xml), THE DOCUMENT's: references.
-/
namespace Go.Proofs.YtjoeamlidmmioaaGreatDoor
open Go.RowKit
set_option linter.unusedVariables false
set_option maxRecDepth 100000

def nmF (j : Nat) : List UInt8 := [38] ++ nmK j ++ [59]
theorem nmF_cases {j : Nat} (h : j < 5) : j = 0 ∨ j = 1 ∨ j = 2 ∨ j = 3 ∨ j = 4 := by omega
theorem nmK_free {j : Nat} (h : j < 5) : (59 : UInt8) ∉ nmK j := by
  rcases nmF_cases h with rfl | rfl | rfl | rfl | rfl <;> decide
theorem denX_nm {j : Nat} (h : j < 5) : denX (nmK j) = some [chK j] := by
  rcases nmF_cases h with rfl | rfl | rfl | rfl | rfl <;> decide
theorem refX_nm {r : List UInt8} {j : Nat} (h : j < 5) (hp : (nmF j).isPrefixOf (38 :: r) = true) : ∃ q, refX r = some ([chK j], q) ∧ (nmF j).length + q.length = 1 + r.length := by
  obtain ⟨q, hq⟩ := List.isPrefixOf_iff_prefix.1 hp
  have hr : r = nmK j ++ 59 :: q := by
    have : nmF j ++ q = 38 :: (nmK j ++ 59 :: q) := by simp [nmF]
    rw [this] at hq
    exact (List.cons.inj hq).2.symm
  refine ⟨q, ?_, ?_⟩
  · unfold refX
    rw [hr, upTo_put q (nmK_free h)]
    simp [denX_nm h]
  · rw [hr]; simp [nmF]; omega
def denT (x : List UInt8) : Option (List UInt8) := match x with | 35 :: d => numbX d | _ => none
theorem denX_not {x : List UInt8} (h : ∀ j, j < 5 → x ≠ nmK j) : denX x = denT x := by
  have h0 : x ≠ [97, 109, 112] := h 0 (by decide)
  have h1 : x ≠ [108, 116] := h 1 (by decide)
  have h2 : x ≠ [103, 116] := h 2 (by decide)
  have h3 : x ≠ [113, 117, 111, 116] := h 3 (by decide)
  have h4 : x ≠ [97, 112, 111, 115] := h 4 (by decide)
  unfold denX
  rw [if_neg h0, if_neg h1, if_neg h2, if_neg h3, if_neg h4]
  rfl
theorem not_nm {r x q : List UInt8} (hu : upTo [59] r = some (x, q)) (hn : ∀ j, j < 5 → (nmF j).isPrefixOf (38 :: r) = false) : ∀ j, j < 5 → x ≠ nmK j := by
  intro j hj e
  have h1 := (upTo_lt hu).2
  have h2 := hn j hj
  rw [Bool.eq_false_iff] at h2
  exact h2 (List.isPrefixOf_iff_prefix.2 ⟨q, by rw [h1, e]; simp [nmF]⟩)
/-- What the number behind '#' says. -/
def chrO (o : Option Nat) : Option (List UInt8) := o.bind fun n => if runeX n then some (utfX n) else none
theorem charX_nmb (b m : Nat) (d : List UInt8) : charX b m d = chrO (nmb b m d) := by
  unfold charX chrO nmb
  split <;> rfl
theorem refX_num {r d q : List UInt8} (hu : upTo [59] r = some (35 :: d, q)) (hn : ∀ j, j < 5 → (nmF j).isPrefixOf (38 :: r) = false) : refX r = (numbX d).map fun t => (t, q) := by
  unfold refX
  rw [hu]
  simp only [Option.bind_some]
  rw [denX_not (not_nm hu hn)]
  rfl
theorem refX_bad {r : List UInt8} (hn : ∀ j, j < 5 → (nmF j).isPrefixOf (38 :: r) = false) (h : upTo [59] r = none ∨ ([38, 35] : List UInt8).isPrefixOf (38 :: r) = false) : refX r = none := by
  unfold refX
  cases hu : upTo [59] r with
  | none => rfl
  | some y =>
    obtain ⟨x, q⟩ := y
    rcases h with h | h
    · rw [h] at hu; cases hu
    simp only [Option.bind_some]
    rw [denX_not (not_nm hu hn)]
    have hr := (upTo_lt hu).2
    unfold denT
    split
    · rename_i d
      rw [Bool.eq_false_iff] at h
      exact absurd (List.isPrefixOf_iff_prefix.2 ⟨d ++ [59] ++ q, by rw [hr]; simp⟩) h
    · rfl
theorem numbX_x {h : List UInt8} : numbX (120 :: h) = chrO (nmb 16 6 h) := by rw [← charX_nmb]; rfl
theorem numbX_no {d : List UInt8} (h : d[0]? ≠ some 120) : numbX d = chrO (nmb 10 7 d) := by
  rw [← charX_nmb]
  unfold numbX
  split
  · simp at h
  · rfl
/-- What a reference says, and how many bytes it has. -/
def refO (r : List UInt8) : Option (List UInt8 × Nat) := (refX r).map fun x => (x.1, 1 + r.length - x.2.length)
def rfV (o : Option (List UInt8 × Nat)) : Value := match o with | some x => .tuple #[.string (mk x.1), .int .i64 (x.2 : Nat)] | none => .tuple #[.string ⟨#[]⟩, .int .i64 0]
theorem refO_nm {r : List UInt8} {j : Nat} (h : j < 5) (hp : (nmF j).isPrefixOf (38 :: r) = true) : refO r = some ([chK j], (nmF j).length) := by
  obtain ⟨q, h1, h2⟩ := refX_nm h hp
  unfold refO
  rw [h1]
  simp only [Option.map_some, Option.some.injEq, Prod.mk.injEq, true_and]
  omega
theorem refO_bad {r : List UInt8} (hn : ∀ j, j < 5 → (nmF j).isPrefixOf (38 :: r) = false) (h : upTo [59] r = none ∨ ([38, 35] : List UInt8).isPrefixOf (38 :: r) = false) : refO r = none := by
  unfold refO; rw [refX_bad hn h]; rfl
theorem refO_num {r d q : List UInt8} (hu : upTo [59] r = some (35 :: d, q)) (hn : ∀ j, j < 5 → (nmF j).isPrefixOf (38 :: r) = false) : refO r = (numbX d).map fun t => (t, d.length + 3) := by
  unfold refO
  rw [refX_num hu hn]
  have := (upTo_lt hu).1
  simp only [List.length_cons, List.length_nil] at this
  cases numbX d with
  | none => rfl
  | some t =>
    simp only [Option.map_some, Option.some.injEq, Prod.mk.injEq, true_and]
    omega
theorem says_run {j : Nat} (h : j < 5) (wx : World) : (Instr.slice 9 (.string ⟨#[38, 60, 62, 34, 39]⟩) (some (.int .i64 (j : Nat))) (some (.int .i64 ((j : Int) + 1))) none).run Tryz.prog wx = .ok (.string (mk [chK j])) wx := by
  refine slice_lh (lo := (j : Int)) (hi := (j : Int) + 1) (by omega) (by omega) (by show (j : Int) + 1 ≤ 5; omega) ?_ wx
  rcases nmF_cases h with rfl | rfl | rfl | rfl | rfl <;> rfl
def nmsW (w : World) : World := w.alloc (.cells #[.string ⟨#[38, 97, 109, 112, 59]⟩, .string ⟨#[38, 108, 116, 59]⟩, .string ⟨#[38, 103, 116, 59]⟩, .string ⟨#[38, 113, 117, 111, 116, 59]⟩, .string ⟨#[38, 97, 112, 111, 115, 59]⟩] 9)
theorem nms_cell (w : World) {j : Nat} (h : j < 5) : (nmsW w).cell? ⟨w.heap.size, j, none⟩ = some (.string (mk (nmF j))) := by
  have ho := own.new w #[.string ⟨#[38, 97, 109, 112, 59]⟩, .string ⟨#[38, 108, 116, 59]⟩, .string ⟨#[38, 103, 116, 59]⟩, .string ⟨#[38, 113, 117, 111, 116, 59]⟩, .string ⟨#[38, 97, 112, 111, 115, 59]⟩] 9
  rw [show (nmsW w).cell? ⟨w.heap.size, j, none⟩ = _ from ho.cell j]
  rcases nmF_cases h with rfl | rfl | rfl | rfl | rfl <;> rfl
theorem fnd0 (r : List UInt8) : fndI [59] (38 :: r) 0 = match upTo [59] r with | some x => ((x.1.length + 1 : Nat) : Int) | none => -1 := by
  unfold fndI
  rw [List.drop_zero]
  rw [show upTo [59] (38 :: r) = (upTo [59] r).map fun x => (38 :: x.1, x.2) from by rw [upTo]; rfl]
  cases upTo [59] r with
  | none => rfl
  | some x => simp
theorem hash_is {r x q : List UInt8} (hu : upTo [59] r = some (x, q)) (hp : ([38, 35] : List UInt8).isPrefixOf (38 :: r) = true) : ∃ d, x = 35 :: d := by
  obtain ⟨u, hq⟩ := List.isPrefixOf_iff_prefix.1 hp
  have hr := (upTo_lt hu).2
  have hr2 : r = 35 :: u := (List.cons.inj hq).2.symm
  cases x with
  | nil => rw [hr] at hr2; simp at hr2
  | cons c d => rw [hr] at hr2; simp at hr2; exact ⟨d, by rw [hr2.1]⟩
set_option maxHeartbeats 16000000 in
theorem rReference_any (r : List UInt8) (hr : r.length ≤ 900000) (w : World) :
    Calls Tryz.prog 55 #[.string (mk (38 :: r))] w fun e w' => e = .returned (rfV (refO r)) ∧ Below w.heap.size w w' := by
  have hms : (mk (38 :: r)).size = r.length + 1 := by rw [mk_size]; rfl
  have hN := hid (fun j (h : j < 5) => nms_cell w h)
  have hB := hid ((Below.refl w.heap.size w).alloc (Nat.le_refl _) (.cells #[.string ⟨#[38, 97, 109, 112, 59]⟩, .string ⟨#[38, 108, 116, 59]⟩, .string ⟨#[38, 103, 116, 59]⟩, .string ⟨#[38, 113, 117, 111, 116, 59]⟩, .string ⟨#[38, 97, 112, 111, 115, 59]⟩] 9))
  unfold nmsW at hN
  have HFi := hid (find_any (38 :: r) (by simp; omega) 0 (by omega) 0 rfl ⟨#[59]⟩ (by decide) (by decide))
  go_enter Tryz.func55, Tryz.ntmps55
  go_wp2
  generalize hW : w.alloc (.cells #[.string ⟨#[38, 97, 109, 112, 59]⟩, .string ⟨#[38, 108, 116, 59]⟩, .string ⟨#[38, 103, 116, 59]⟩, .string ⟨#[38, 113, 117, 111, 116, 59]⟩, .string ⟨#[38, 97, 112, 111, 115, 59]⟩] 9) = W at *
  clear hW
  go_loopw [6] (fun i wr => ∃ j : Nat, j ≤ 5 ∧ i = .int .i64 j ∧ W = wr ∧ Hid (∀ k, k < j → (nmF k).isPrefixOf (38 :: r) = false)) (fun i _ => 5 - (intOf i).toNat)
  case atStart => exact ⟨0, by omega, rfl, (by first | trivial | rfl), hid (fun k h => by omega)⟩
  case round =>
    obtain ⟨j, hj, rfl, rfl, hF⟩ := hrel
    by_cases hlt : j < 5
    · have h1 : (j : Int) < 5 := by omega
      have c1 := hN.out j hlt
      have H1 := hid (begs_any (38 :: r) (mk (nmF j)))
      rw [mk_data] at H1
      cases hp : (nmF j).isPrefixOf (38 :: r) with
      | true =>
        rw [hp] at H1
        have HR := hid (refO_nm hlt hp)
        have x1 := fun wx => says_run hlt wx
        clear hp hF
        go_wp2_with (go_at_call 56; (with_reducible refine (H1.out _).mono ?_); rintro e w1 ⟨rfl, rfl⟩)
        have hw1 : IntKind.i64.wrap ((j : Int) + 1) = (j : Int) + 1 := IntWalk.i64_in _ (by omega)
        have hsz : (mk (nmF j)).size = (nmF j).length := mk_size _
        go_quiet (fail)
        all_goals
          go_wp2
          go_ret2
          exact ⟨by rw [HR.out]; simp [rfV], below_drew hB.out _⟩
      | false =>
        rw [hp] at H1
        have HR : Hid (∀ k, k < j + 1 → (nmF k).isPrefixOf (38 :: r) = false) := hid (fun k hk => by
          rcases Nat.lt_or_ge k j with h | h
          · exact hF.out k h
          · obtain rfl : k = j := by omega
            exact hp)
        clear hp hF
        go_wp2_with (go_at_call 56; (with_reducible refine (H1.out _).mono ?_); rintro e w1 ⟨rfl, rfl⟩)
        go_roundw
        case rel => exact ⟨j + 1, by omega, by go_num, (by first | trivial | rfl), HR⟩
        case measure => simp [intOf]; omega
    · obtain rfl : j = 5 := by omega
      have h1 : ¬ ((5 : Nat) : Int) < 5 := by omega
      have hn := hF.out
      have H2 := hid (begs_any (38 :: r) ⟨#[38, 35]⟩)
      have e35 : (⟨#[38, 35]⟩ : ByteArray).data.toList = [38, 35] := rfl
      rw [e35] at H2
      rw [fnd0] at HFi
      cases hu : upTo [59] r with
      | none =>
        rw [hu] at HFi
        have HR := hid (refO_bad hn (.inl hu))
        simp only at HFi
        clear hn hF hu
        cases hb2 : ([38, 35] : List UInt8).isPrefixOf (38 :: r) with
        | true =>
          rw [hb2] at H2
          go_wp2_with (first | (go_at_call 56; (with_reducible refine (H2.out _).mono ?_); rintro e w1 ⟨rfl, rfl⟩) | (go_at_call 33; (with_reducible refine (HFi.out _).mono ?_); rintro e w1 ⟨rfl, rfl⟩))
          go_ret2
          exact ⟨by rw [HR.out]; rfl, hB.out⟩
        | false =>
          rw [hb2] at H2
          go_wp2_with (first | (go_at_call 56; (with_reducible refine (H2.out _).mono ?_); rintro e w1 ⟨rfl, rfl⟩) | (go_at_call 33; (with_reducible refine (HFi.out _).mono ?_); rintro e w1 ⟨rfl, rfl⟩))
          go_ret2
          exact ⟨by rw [HR.out]; rfl, hB.out⟩
      | some y =>
        obtain ⟨x, q⟩ := y
        rw [hu] at HFi
        simp only at HFi
        cases hb2 : ([38, 35] : List UInt8).isPrefixOf (38 :: r) with
        | false =>
          rw [hb2] at H2
          have HR := hid (refO_bad hn (.inr hb2))
          clear hn hF hu
          go_wp2_with (first | (go_at_call 56; (with_reducible refine (H2.out _).mono ?_); rintro e w1 ⟨rfl, rfl⟩) | (go_at_call 33; (with_reducible refine (HFi.out _).mono ?_); rintro e w1 ⟨rfl, rfl⟩))
          go_ret2
          exact ⟨by rw [HR.out]; rfl, hB.out⟩
        | true =>
          rw [hb2] at H2
          obtain ⟨d, rfl⟩ := hash_is hu hb2
          have HR := hid (refO_num hu hn)
          have hrr := (upTo_lt hu).2
          have hdl : d.length + 2 ≤ r.length := by rw [hrr]; simp only [List.length_append, List.length_cons, List.length_nil]; omega
          obtain ⟨N, hN⟩ : ∃ N, N = d.length + 2 := ⟨_, rfl⟩
          have hNe : (((35 :: d).length + 1 : Nat) : Int) = (N : Int) := by rw [hN]; simp; omega
          rw [hNe] at HFi
          have hN0 : ¬ ((N : Int) < 0) := by omega
          have hNl : N ≤ 1000000 := by omega
          have x2 := fun wx => s_mid (a := 38 :: r) (i := 2) (j := N) (by omega) (by simp; omega) (p := 2) (q := (N : Int)) rfl rfl wx
          have x2e : ((38 :: r).drop 2).take (N - 2) = d := by rw [hN, hrr]; simp
          rw [x2e] at x2
          have HN := hid hN
          have HB5 : Hid (∀ w2, Below W.heap.size W w2 → Below w.heap.size w w2) := hid (fun w2 h => hB.out.trans (h.mono hB.out.size))
          by_cases hx : d[0]? = some 120
          · obtain ⟨h, rfl⟩ : ∃ h, d = 120 :: h := by
              cases d with
              | nil => simp at hx
              | cons c t => simp at hx; exact ⟨t, by rw [hx]⟩
            have hh : h.length ≤ 900000 := by simp only [List.length_cons] at hdl; omega
            have hN3 : 3 ≤ N := by rw [hN]; simp
            have i2 := fun wx => ix_at (a := 38 :: r) (k := 2) (c := 120) (by rw [hrr]; rfl) (q := 2) rfl wx
            have x3 := fun wx => s_mid (a := 38 :: r) (i := 3) (j := N) (by omega) (by simp; omega) (p := 3) (q := (N : Int)) rfl rfl wx
            have x3e : ((38 :: r).drop 3).take (N - 3) = h := by rw [hN, hrr]; simp
            rw [x3e] at x3
            have hten : nmb 10 7 (120 :: h) = none := nmb_bad 1 (by simp only [List.take_succ_cons, List.take_zero]; decide)
            have H3 : Hid (∀ wx : World, Calls Tryz.prog 86 #[.string (mk (120 :: h)), .int .i64 10, .int .i64 7] wx fun e w' => e = .returned (.tuple #[.int .i64 0, .bool false]) ∧ wx = w') := hid (fun wx => by
              have := number_any (120 :: h) (by simp; omega) 10 7 (.inl ⟨rfl, rfl⟩) wx
              rw [hten] at this
              exact this)
            have H4 : Hid (∀ wx : World, Calls Tryz.prog 86 #[.string (mk h), .int .i64 16, .int .i64 6] wx fun e w' => e = .returned (nmbV (nmb 16 6 h)) ∧ wx = w') := hid (fun wx => number_any h (by omega) 16 6 (.inr ⟨rfl, rfl⟩) wx)
            have hr2 := HR.out
            rw [numbX_x] at hr2
            clear hx hn hF hu hrr x2e x3e hten HR hNe hN hdl
            cases ho : nmb 16 6 h with
            | none =>
              rw [ho] at H4 hr2
              have HR : Hid (refO r = none) := hid hr2
              have H5 : Hid (∀ wx : World, Calls Tryz.prog 87 #[.int .i64 0] wx fun e w' => e = .returned (.tuple #[.string ⟨#[]⟩, .bool false]) ∧ Below wx.heap.size wx w') := hid (fun wx => utf8_any 0 wx)
              unfold nmbV at H4
              clear hr2
              go_wp2_with (first
            | (go_at_call 56; (with_reducible refine (H2.out _).mono ?_); rintro e w1 ⟨rfl, rfl⟩)
            | (go_at_call 33; (with_reducible refine (HFi.out _).mono ?_); rintro e w1 ⟨rfl, rfl⟩)
            | (go_at_call 86; first
              | ((with_reducible refine (H3.out _).mono ?_); rintro e w1 ⟨rfl, rfl⟩)
              | ((with_reducible refine (H4.out _).mono ?_); rintro e w1 ⟨rfl, rfl⟩))
            | (go_at_call 87; (with_reducible refine (H5.out _).mono ?_); rintro e w2 ⟨rfl, hb5⟩))
              go_ret2
              exact ⟨by rw [HR.out]; rfl, HB5.out _ hb5⟩
            | some v =>
              rw [ho] at H4 hr2
              unfold nmbV at H4
              have H5 := hid (utf8_any v)
              cases hv : runeX v with
              | true =>
                rw [hv] at H5
                have HR : Hid (refO r = some (utfX v, (120 :: h).length + 3)) := hid (by rw [hr2]; simp [chrO, hv])
                simp only [if_true] at H5
                clear hr2
                go_wp2_with (first
            | (go_at_call 56; (with_reducible refine (H2.out _).mono ?_); rintro e w1 ⟨rfl, rfl⟩)
            | (go_at_call 33; (with_reducible refine (HFi.out _).mono ?_); rintro e w1 ⟨rfl, rfl⟩)
            | (go_at_call 86; first
              | ((with_reducible refine (H3.out _).mono ?_); rintro e w1 ⟨rfl, rfl⟩)
              | ((with_reducible refine (H4.out _).mono ?_); rintro e w1 ⟨rfl, rfl⟩))
            | (go_at_call 87; (with_reducible refine (H5.out _).mono ?_); rintro e w2 ⟨rfl, hb5⟩))
                go_ret2
                exact ⟨by rw [HR.out]; simp [rfV, HN.out]; try omega, HB5.out _ hb5⟩
              | false =>
                rw [hv] at H5
                have HR : Hid (refO r = none) := hid (by rw [hr2]; simp [chrO, hv])
                simp only [Bool.false_eq_true, if_false] at H5
                clear hr2
                go_wp2_with (first
            | (go_at_call 56; (with_reducible refine (H2.out _).mono ?_); rintro e w1 ⟨rfl, rfl⟩)
            | (go_at_call 33; (with_reducible refine (HFi.out _).mono ?_); rintro e w1 ⟨rfl, rfl⟩)
            | (go_at_call 86; first
              | ((with_reducible refine (H3.out _).mono ?_); rintro e w1 ⟨rfl, rfl⟩)
              | ((with_reducible refine (H4.out _).mono ?_); rintro e w1 ⟨rfl, rfl⟩))
            | (go_at_call 87; (with_reducible refine (H5.out _).mono ?_); rintro e w2 ⟨rfl, hb5⟩))
                go_ret2
                exact ⟨by rw [HR.out]; rfl, HB5.out _ hb5⟩
          · obtain ⟨c0, hc0, hne⟩ : ∃ c0, (38 :: r)[2]? = some c0 ∧ ¬ c0 = 120 := by
              rw [hrr]
              cases d with
              | nil => exact ⟨59, rfl, by decide⟩
              | cons c t => exact ⟨c, rfl, fun e => hx (by rw [e]; rfl)⟩
            have i2 := fun wx => ix_at hc0 (q := 2) rfl wx
            have q1 := u8_neq (q := 120) rfl hne
            have H3 : Hid (∀ wx : World, Calls Tryz.prog 86 #[.string (mk d), .int .i64 10, .int .i64 7] wx fun e w' => e = .returned (nmbV (nmb 10 7 d)) ∧ wx = w') := hid (fun wx => number_any d (by omega) 10 7 (.inl ⟨rfl, rfl⟩) wx)
            have H4 := H3
            have hr2 := HR.out
            rw [numbX_no hx] at hr2
            clear hx hn hF hu hrr x2e HR hNe hc0 hne hN hdl
            cases ho : nmb 10 7 d with
            | none =>
              rw [ho] at H3 hr2
              have HR : Hid (refO r = none) := hid hr2
              have H5 : Hid (∀ wx : World, Calls Tryz.prog 87 #[.int .i64 0] wx fun e w' => e = .returned (.tuple #[.string ⟨#[]⟩, .bool false]) ∧ Below wx.heap.size wx w') := hid (fun wx => utf8_any 0 wx)
              unfold nmbV at H3
              clear hr2
              go_wp2_with (first
            | (go_at_call 56; (with_reducible refine (H2.out _).mono ?_); rintro e w1 ⟨rfl, rfl⟩)
            | (go_at_call 33; (with_reducible refine (HFi.out _).mono ?_); rintro e w1 ⟨rfl, rfl⟩)
            | (go_at_call 86; first
              | ((with_reducible refine (H3.out _).mono ?_); rintro e w1 ⟨rfl, rfl⟩)
              | ((with_reducible refine (H4.out _).mono ?_); rintro e w1 ⟨rfl, rfl⟩))
            | (go_at_call 87; (with_reducible refine (H5.out _).mono ?_); rintro e w2 ⟨rfl, hb5⟩))
              go_ret2
              exact ⟨by rw [HR.out]; rfl, HB5.out _ hb5⟩
            | some v =>
              rw [ho] at H3 hr2
              unfold nmbV at H3
              have H5 := hid (utf8_any v)
              cases hv : runeX v with
              | true =>
                rw [hv] at H5
                have HR : Hid (refO r = some (utfX v, d.length + 3)) := hid (by rw [hr2]; simp [chrO, hv])
                simp only [if_true] at H5
                clear hr2
                go_wp2_with (first
            | (go_at_call 56; (with_reducible refine (H2.out _).mono ?_); rintro e w1 ⟨rfl, rfl⟩)
            | (go_at_call 33; (with_reducible refine (HFi.out _).mono ?_); rintro e w1 ⟨rfl, rfl⟩)
            | (go_at_call 86; first
              | ((with_reducible refine (H3.out _).mono ?_); rintro e w1 ⟨rfl, rfl⟩)
              | ((with_reducible refine (H4.out _).mono ?_); rintro e w1 ⟨rfl, rfl⟩))
            | (go_at_call 87; (with_reducible refine (H5.out _).mono ?_); rintro e w2 ⟨rfl, hb5⟩))
                go_ret2
                exact ⟨by rw [HR.out]; simp [rfV, HN.out]; try omega, HB5.out _ hb5⟩
              | false =>
                rw [hv] at H5
                have HR : Hid (refO r = none) := hid (by rw [hr2]; simp [chrO, hv])
                simp only [Bool.false_eq_true, if_false] at H5
                clear hr2
                go_wp2_with (first
            | (go_at_call 56; (with_reducible refine (H2.out _).mono ?_); rintro e w1 ⟨rfl, rfl⟩)
            | (go_at_call 33; (with_reducible refine (HFi.out _).mono ?_); rintro e w1 ⟨rfl, rfl⟩)
            | (go_at_call 86; first
              | ((with_reducible refine (H3.out _).mono ?_); rintro e w1 ⟨rfl, rfl⟩)
              | ((with_reducible refine (H4.out _).mono ?_); rintro e w1 ⟨rfl, rfl⟩))
            | (go_at_call 87; (with_reducible refine (H5.out _).mono ?_); rintro e w2 ⟨rfl, hb5⟩))
                go_ret2
                exact ⟨by rw [HR.out]; rfl, HB5.out _ hb5⟩
end Go.Proofs.YtjoeamlidmmioaaGreatDoor

