import Derived.Test.YtjoeamlidmmioaaGreatDoorXmR8J
/-
  LAYER 11 (xml), THE DOCUMENT's: a part; the tokens, and words.
-/
namespace Go.Proofs.YtjoeamlidmmioaaGreatDoor
open Go.RowKit
set_option linter.unusedVariables false
set_option maxRecDepth 100000

theorem find_out (a : List UInt8) (ha : a.length ≤ 1000000) (k : Nat) (hk : a.length < k) (hk2 : k ≤ 1000000) (q : Int) (hq : q = (k : Nat)) (t : ByteArray) (ht : 0 < t.size) (htl : t.size ≤ 100) (w : World) :
    Calls Tryz.prog 33 #[.string (mk a), .int .i64 q, .string t] w fun e w' => e = .returned (.int .i64 (-1)) ∧ w = w' := by
  subst hq
  have hms : (mk a).size = a.length := mk_size a
  go_enter Tryz.func33, Tryz.ntmps33
  go_wp2
  go_loopw [7] (fun i wr => ∃ j : Nat, j = k ∧ i = .int .i64 j ∧ w = wr) (fun i _ => 0)
  case atStart => exact ⟨k, rfl, rfl, rfl⟩
  case round =>
    obtain ⟨j, rfl, rfl, rfl⟩ := hrel
    have h1 : ¬ ((j : Int) + (t.size : Int) ≤ ((mk a).size : Int)) := by omega
    go_wp2
    go_ret
    exact ⟨rfl, rfl⟩
theorem untI_is (t a : List UInt8) {k : Nat} (hk : k ≤ a.length) : untI t a k = match upTo t (a.drop k) with | some x => ((a.length - x.2.length : Nat) : Int) | none => 0 := by
  unfold untI
  cases h : upTo t (a.drop k) with
  | none => rfl
  | some x =>
    have := (upTo_lt h).1
    rw [List.length_drop] at this
    simp only
    congr 1
    omega
def partO (y : List UInt8) : Option (PtX × Nat) := (partX (60 :: y)).map fun x => (x.1, 1 + y.length - x.2.length)
def PartPost (w : World) (o : Option (PtX × Nat)) (e : Ending) (w' : World) : Prop :=
  Below w.heap.size w w' ∧ match o with
    | none => e = .returned (.tuple #[.string ⟨#[]⟩, .slice none 0 0, .int .i64 0])
    | some (.txt t, m) => e = .returned (.tuple #[.string (mk t), .slice none 0 0, .int .i64 (m : Nat)])
    | some (.tags L, m) => ∃ a c, e = .returned (.tuple #[.string ⟨#[]⟩, .slice a L.length c, .int .i64 (m : Nat)]) ∧ RkNew w w' (.slice a L.length c) L
theorem tag_none {w : World} {args : Array Value} (h : Calls Tryz.prog 60 args w (TagPost w none)) : Calls Tryz.prog 60 args w fun e w' => Below w.heap.size w w' ∧ e = .returned (.tuple #[.slice none 0 0, .int .i64 0]) :=
  h.mono fun e w' ⟨h1, h2⟩ => ⟨h1, by
    rcases h2 with ⟨-, h⟩ | ⟨L, m, a, c, h, -⟩
    · exact h
    · cases h⟩
theorem tag_some {w : World} {args : Array Value} {L : List TkX} {m : Nat} (h : Calls Tryz.prog 60 args w (TagPost w (some (L, m)))) : Calls Tryz.prog 60 args w fun e w' => Below w.heap.size w w' ∧ ∃ a c, e = .returned (.tuple #[.slice a L.length c, .int .i64 (m : Nat)]) ∧ RkNew w w' (.slice a L.length c) L :=
  h.mono fun e w' ⟨h1, h2⟩ => ⟨h1, by
    rcases h2 with ⟨h, -⟩ | ⟨L', m', a, c, h, he, hn⟩
    · cases h
    · cases h; exact ⟨a, c, he, hn⟩⟩
theorem part_else {y : List UInt8} (h1 : sComment.isPrefixOf (60 :: y) = false) (h2 : sInstr.isPrefixOf (60 :: y) = false) (h3 : sData.isPrefixOf (60 :: y) = false) (h4 : sDoc.isPrefixOf (60 :: y) = false) (h5 : sEnd.isPrefixOf (60 :: y) = false) : partX (60 :: y) = (tagX y).map fun x => (.tags x.1, x.2) := by
  unfold partX past
  rw [h1, h2, h3, h4, h5]
  rfl
theorem endX_bad {r : List UInt8} (h : (nameX r).1 = [] ∨ ([62] : List UInt8).isPrefixOf ((nameX r).2.dropWhile spcX) = false) : endX r = none := by
  unfold endX
  split
  · rfl
  · rename_i hn
    split
    · rename_i q e
      rcases h with h | h
      · exact absurd h hn
      · rw [e] at h; simp at h
    · rfl
theorem endX_ok {r q : List UInt8} (hn : (nameX r).1 ≠ []) (h : (nameX r).2.dropWhile spcX = 62 :: q) : endX r = some ([closeT (nameX r).1], q) := by
  unfold endX
  rw [if_neg hn, h]
  rfl
set_option maxHeartbeats 32000000 in
theorem part_any (y : List UInt8) (hy : y.length ≤ 90000) (w : World) :
    Calls Tryz.prog 35 #[.string (mk (60 :: y))] w (PartPost w (partO y)) := by
  have hms : (mk (60 :: y)).size = y.length + 1 := by rw [mk_size]; rfl
  have hsl : (60 :: y).length = y.length + 1 := rfl
  have G1 := hid (begs_any (60 :: y) ⟨#[60, 33, 45, 45]⟩)
  have G2 := hid (begs_any (60 :: y) ⟨#[60, 63]⟩)
  have G3 := hid (begs_any (60 :: y) ⟨#[60, 33, 91, 67, 68, 65, 84, 65, 91]⟩)
  have G4 := hid (begs_any (60 :: y) ⟨#[60, 33, 68, 79, 67, 84, 89, 80, 69]⟩)
  have G5 := hid (begs_any (60 :: y) ⟨#[60, 47]⟩)
  rw [show (⟨#[60, 33, 45, 45]⟩ : ByteArray).data.toList = sComment from rfl] at G1
  rw [show (⟨#[60, 63]⟩ : ByteArray).data.toList = sInstr from rfl] at G2
  rw [show (⟨#[60, 33, 91, 67, 68, 65, 84, 65, 91]⟩ : ByteArray).data.toList = sData from rfl] at G3
  rw [show (⟨#[60, 33, 68, 79, 67, 84, 89, 80, 69]⟩ : ByteArray).data.toList = sDoc from rfl] at G4
  rw [show (⟨#[60, 47]⟩ : ByteArray).data.toList = sEnd from rfl] at G5
  cases p1 : sComment.isPrefixOf (60 :: y) with
  | true =>
    rw [p1] at G1
    obtain ⟨z, hz⟩ := List.isPrefixOf_iff_prefix.1 p1
    have hp : 60 :: y = sComment ++ z := hz.symm
    have HU := hid (until_any (60 :: y) (by omega) 4 (by rw [hp]; simp [sComment]) 4 rfl ⟨#[45, 45, 62]⟩ (by decide) (by decide))
    rw [show (⟨#[45, 45, 62]⟩ : ByteArray).data.toList = eComment from rfl, untI_is _ _ (by rw [hp]; simp [sComment])] at HU
    have hd : (60 :: y).drop 4 = z := by rw [hp]; rfl
    rw [hd] at HU
    have hP : partX (60 :: y) = (upTo eComment z).map fun x => (.txt [], x.2) := by rw [hp]; exact partX_comment z
    cases hu : upTo eComment z with
    | none =>
      rw [hu] at HU
      have HR : Hid (partO y = none) := hid (by unfold partO; rw [hP, hu]; rfl)
      simp only at HU
      clear hP hu hd hp hz
      go_enter Tryz.func35, Tryz.ntmps35
      go_wp2_with (first | (go_at_call 56; first | ((with_reducible refine (G1.out _).mono ?_); rintro e w1 ⟨rfl, rfl⟩)) | (go_at_call 57; (with_reducible refine (HU.out _).mono ?_); rintro e w1 ⟨rfl, rfl⟩))
      go_ret3
      exact ⟨Below.refl _ _, by rw [HR.out]; rfl⟩
    | some x =>
      rw [hu] at HU
      have HR : Hid (partO y = some (.txt [], (60 :: y).length - x.2.length)) := hid (by unfold partO; rw [hP, hu, hsl, Nat.add_comm y.length 1]; rfl)
      simp only at HU
      generalize (60 :: y).length - x.2.length = m at *
      clear hP hu hd hp hz
      go_enter Tryz.func35, Tryz.ntmps35
      go_wp2_with (first | (go_at_call 56; first | ((with_reducible refine (G1.out _).mono ?_); rintro e w1 ⟨rfl, rfl⟩)) | (go_at_call 57; (with_reducible refine (HU.out _).mono ?_); rintro e w1 ⟨rfl, rfl⟩))
      go_ret3
      exact ⟨Below.refl _ _, by rw [HR.out]; rfl⟩
  | false =>
    rw [p1] at G1
    cases p2 : sInstr.isPrefixOf (60 :: y) with
    | true =>
      rw [p2] at G2
      obtain ⟨z, hz⟩ := List.isPrefixOf_iff_prefix.1 p2
      have hp : 60 :: y = sInstr ++ z := hz.symm
      have HU := hid (until_any (60 :: y) (by omega) 2 (by rw [hp]; simp [sInstr]) 2 rfl ⟨#[63, 62]⟩ (by decide) (by decide))
      rw [show (⟨#[63, 62]⟩ : ByteArray).data.toList = eInstr from rfl, untI_is _ _ (by rw [hp]; simp [sInstr])] at HU
      have hd : (60 :: y).drop 2 = z := by rw [hp]; rfl
      rw [hd] at HU
      have hP : partX (60 :: y) = (upTo eInstr z).map fun x => (.txt [], x.2) := by rw [hp]; exact partX_instr z
      cases hu : upTo eInstr z with
      | none =>
        rw [hu] at HU
        have HR : Hid (partO y = none) := hid (by unfold partO; rw [hP, hu]; rfl)
        simp only at HU
        clear hP hu hd hp hz
        go_enter Tryz.func35, Tryz.ntmps35
        go_wp2_with (first | (go_at_call 56; first | ((with_reducible refine (G1.out _).mono ?_); rintro e w1 ⟨rfl, rfl⟩) | ((with_reducible refine (G2.out _).mono ?_); rintro e w1 ⟨rfl, rfl⟩)) | (go_at_call 57; (with_reducible refine (HU.out _).mono ?_); rintro e w1 ⟨rfl, rfl⟩))
        go_ret3
        exact ⟨Below.refl _ _, by rw [HR.out]; rfl⟩
      | some x =>
        rw [hu] at HU
        have HR : Hid (partO y = some (.txt [], (60 :: y).length - x.2.length)) := hid (by unfold partO; rw [hP, hu, hsl, Nat.add_comm y.length 1]; rfl)
        simp only at HU
        generalize (60 :: y).length - x.2.length = m at *
        clear hP hu hd hp hz
        go_enter Tryz.func35, Tryz.ntmps35
        go_wp2_with (first | (go_at_call 56; first | ((with_reducible refine (G1.out _).mono ?_); rintro e w1 ⟨rfl, rfl⟩) | ((with_reducible refine (G2.out _).mono ?_); rintro e w1 ⟨rfl, rfl⟩)) | (go_at_call 57; (with_reducible refine (HU.out _).mono ?_); rintro e w1 ⟨rfl, rfl⟩))
        go_ret3
        exact ⟨Below.refl _ _, by rw [HR.out]; rfl⟩
    | false =>
      rw [p2] at G2
      cases p3 : sData.isPrefixOf (60 :: y) with
      | true =>
        rw [p3] at G3
        obtain ⟨z, hz⟩ := List.isPrefixOf_iff_prefix.1 p3
        have hp : 60 :: y = sData ++ z := hz.symm
        have hpl : y.length + 1 = z.length + 9 := by rw [← hsl, hp]; simp [sData]
        have HU := hid (until_any (60 :: y) (by omega) 9 (by omega) 9 rfl ⟨#[93, 93, 62]⟩ (by decide) (by decide))
        rw [show (⟨#[93, 93, 62]⟩ : ByteArray).data.toList = eData from rfl, untI_is _ _ (by omega)] at HU
        have hd : (60 :: y).drop 9 = z := by rw [hp]; rfl
        rw [hd] at HU
        have hP : partX (60 :: y) = (upTo eData z).map fun x => (.txt x.1, x.2) := by rw [hp]; exact partX_data z
        cases hu : upTo eData z with
        | none =>
          rw [hu] at HU
          have HR : Hid (partO y = none) := hid (by unfold partO; rw [hP, hu]; rfl)
          simp only at HU
          clear hP hu hd hp hz hpl
          go_enter Tryz.func35, Tryz.ntmps35
          go_wp2_with (first | (go_at_call 56; first | ((with_reducible refine (G1.out _).mono ?_); rintro e w1 ⟨rfl, rfl⟩) | ((with_reducible refine (G2.out _).mono ?_); rintro e w1 ⟨rfl, rfl⟩) | ((with_reducible refine (G3.out _).mono ?_); rintro e w1 ⟨rfl, rfl⟩)) | (go_at_call 57; (with_reducible refine (HU.out _).mono ?_); rintro e w1 ⟨rfl, rfl⟩))
          go_ret3
          exact ⟨Below.refl _ _, by rw [HR.out]; rfl⟩
        | some x =>
          obtain ⟨x, q⟩ := x
          rw [hu] at HU
          have hul := (upTo_lt hu)
          have hul1 := hul.1
          have e3 : eData.length = 3 := rfl
          obtain ⟨m, hm⟩ : ∃ m, m = (60 :: y).length - q.length := ⟨_, rfl⟩
          have hme : m = 12 + x.length := by omega
          have HR : Hid (partO y = some (.txt x, m)) := hid (by unfold partO; rw [hP, hu, hm, hsl, Nat.add_comm y.length 1]; rfl)
          simp only at HU
          rw [← hm] at HU
          have x1 := fun wx => s_mid (a := 60 :: y) (i := 9) (j := m - 3) (by omega) (by omega) (p := 9) (q := (m : Int) - 3) rfl (by omega) wx
          have e1 : ((60 :: y).drop 9).take (m - 3 - 9) = x := by rw [hd, hul.2, show m - 3 - 9 = x.length by omega]; simp
          rw [e1] at x1
          have hm0 : ((m : Int) == 0) = false := by have : ¬ m = 0 := by omega
                                                    simpa using this
          have hml : m ≤ 100000 := by omega
          have hm12 : 12 ≤ m := by omega
          clear hP hu hd hp hz hpl hul hul1 e3 hm hme e1
          go_enter Tryz.func35, Tryz.ntmps35
          go_wp2_with (first | (go_at_call 56; first | ((with_reducible refine (G1.out _).mono ?_); rintro e w1 ⟨rfl, rfl⟩) | ((with_reducible refine (G2.out _).mono ?_); rintro e w1 ⟨rfl, rfl⟩) | ((with_reducible refine (G3.out _).mono ?_); rintro e w1 ⟨rfl, rfl⟩)) | (go_at_call 57; (with_reducible refine (HU.out _).mono ?_); rintro e w1 ⟨rfl, rfl⟩))
          go_ret3
          exact ⟨Below.refl _ _, by rw [HR.out]; rfl⟩
      | false =>
        rw [p3] at G3
        cases p4 : sDoc.isPrefixOf (60 :: y) with
        | true =>
          rw [p4] at G4
          obtain ⟨z, hz⟩ := List.isPrefixOf_iff_prefix.1 p4
          have hp : 60 :: y = sDoc ++ z := hz.symm
          have hpl : y.length + 1 = z.length + 9 := by rw [← hsl, hp]; simp [sDoc]
          have HU := hid (until_any (60 :: y) (by omega) 9 (by omega) 9 rfl ⟨#[62]⟩ (by decide) (by decide))
          rw [show (⟨#[62]⟩ : ByteArray).data.toList = [62] from rfl, untI_is _ _ (by omega)] at HU
          have hd : (60 :: y).drop 9 = z := by rw [hp]; rfl
          rw [hd] at HU
          have hP : partX (60 :: y) = (upTo [62] z).bind fun x => if (91 : UInt8) ∈ x.1 ∨ (60 : UInt8) ∈ x.1 then none else some (.txt [], x.2) := by rw [hp]; exact partX_doc z
          cases hu : upTo [62] z with
          | none =>
            rw [hu] at HU
            have HR : Hid (partO y = none) := hid (by unfold partO; rw [hP, hu]; rfl)
            simp only at HU
            have x0 := fun wx => s_to (a := 60 :: y) (k := 0) (by omega) (q := 0) rfl wx
            rw [List.take_zero] at x0
            have HF1 := hid (find_out [] (by simp) 1 (by simp) (by omega) 1 rfl ⟨#[60]⟩ (by decide) (by decide))
            have HF2 := hid (find_out [] (by simp) 1 (by simp) (by omega) 1 rfl ⟨#[91]⟩ (by decide) (by decide))
            clear hP hu hd hp hz hpl
            go_enter Tryz.func35, Tryz.ntmps35
            go_wp2_with (first | (go_at_call 56; first | ((with_reducible refine (G1.out _).mono ?_); rintro e w1 ⟨rfl, rfl⟩) | ((with_reducible refine (G2.out _).mono ?_); rintro e w1 ⟨rfl, rfl⟩) | ((with_reducible refine (G3.out _).mono ?_); rintro e w1 ⟨rfl, rfl⟩) | ((with_reducible refine (G4.out _).mono ?_); rintro e w1 ⟨rfl, rfl⟩)) | (go_at_call 57; (with_reducible refine (HU.out _).mono ?_); rintro e w1 ⟨rfl, rfl⟩) | (go_at_call 33; first | ((with_reducible refine (HF1.out _).mono ?_); rintro e w1 ⟨rfl, rfl⟩) | ((with_reducible refine (HF2.out _).mono ?_); rintro e w1 ⟨rfl, rfl⟩)))
            go_ret3
            exact ⟨Below.refl _ _, by rw [HR.out]; rfl⟩
          | some x =>
            obtain ⟨x, q⟩ := x
            rw [hu] at HU
            have hul := (upTo_lt hu)
            have hul1 := hul.1
            simp only [List.length_cons, List.length_nil] at hul1
            obtain ⟨m, hm⟩ : ∃ m, m = (60 :: y).length - q.length := ⟨_, rfl⟩
            have hme : m = 10 + x.length := by omega
            simp only at HU
            rw [← hm] at HU
            have x1 := fun wx => s_to (a := 60 :: y) (k := m) (by omega) (q := (m : Int)) rfl wx
            have e1 : (60 :: y).take m = sDoc ++ x ++ [62] := by
              rw [hp, hul.2, ← List.append_assoc, ← List.append_assoc]
              have : m = (sDoc ++ x ++ [62]).length := by simp [sDoc]; omega
              rw [this, List.take_left]
            rw [e1] at x1
            have hF1 := fun wx => find_any (sDoc ++ x ++ [62]) (by simp [sDoc]; omega) 1 (by simp [sDoc]) 1 rfl ⟨#[60]⟩ (by decide) (by decide) wx
            have hF2 := fun wx => find_any (sDoc ++ x ++ [62]) (by simp [sDoc]; omega) 1 (by simp [sDoc]) 1 rfl ⟨#[91]⟩ (by decide) (by decide) wx
            rw [show (⟨#[60]⟩ : ByteArray).data.toList = [60] from rfl] at hF1
            rw [show (⟨#[91]⟩ : ByteArray).data.toList = [91] from rfl] at hF2
            have hdd : (sDoc ++ x ++ [62]).drop 1 = [33, 68, 79, 67, 84, 89, 80, 69] ++ x ++ [62] := rfl
            have hm0 : 1 + y.length - q.length = m := by rw [hm, hsl, Nat.add_comm]
            have hP2 : partO y = if (91 : UInt8) ∈ x ∨ (60 : UInt8) ∈ x then none else some (.txt [], m) := by
              unfold partO
              rw [hP, hu]
              simp only [Option.bind_some]
              split
              · rfl
              · simp only [Option.map_some]; rw [hm0]
            have hml : m ≤ 100000 := by omega
            by_cases h60 : (60 : UInt8) ∈ x
            · obtain ⟨u, hu2⟩ := upTo_mem (c := 60) (l := (sDoc ++ x ++ [62]).drop 1) (by rw [hdd]; simp [h60])
              have e2 : fndI [60] (sDoc ++ x ++ [62]) 1 = ((1 + u.1.length : Nat) : Int) := by unfold fndI; rw [hu2]
              rw [e2] at hF1
              obtain ⟨g, hg⟩ : ∃ g, g = 1 + u.1.length := ⟨_, rfl⟩
              rw [← hg] at hF1
              have c1 : (0 : Int) ≤ (g : Int) := by omega
              have HF1 := hid hF1
              have HF2 := HF1
              have HR : Hid (partO y = none) := hid (by rw [hP2, if_pos (.inr h60)])
              clear hP hP2 hu hu2 hd hp hz hpl hul hul1 hm hme e1 e2 hF1 hF2 hdd hm0 h60 hg
              generalize sDoc ++ x ++ [62] = sx at *
              go_enter Tryz.func35, Tryz.ntmps35
              go_wp2_with (first | (go_at_call 56; first | ((with_reducible refine (G1.out _).mono ?_); rintro e w1 ⟨rfl, rfl⟩) | ((with_reducible refine (G2.out _).mono ?_); rintro e w1 ⟨rfl, rfl⟩) | ((with_reducible refine (G3.out _).mono ?_); rintro e w1 ⟨rfl, rfl⟩) | ((with_reducible refine (G4.out _).mono ?_); rintro e w1 ⟨rfl, rfl⟩)) | (go_at_call 57; (with_reducible refine (HU.out _).mono ?_); rintro e w1 ⟨rfl, rfl⟩) | (go_at_call 33; first | ((with_reducible refine (HF1.out _).mono ?_); rintro e w1 ⟨rfl, rfl⟩) | ((with_reducible refine (HF2.out _).mono ?_); rintro e w1 ⟨rfl, rfl⟩)))
              go_ret3
              exact ⟨Below.refl _ _, by rw [HR.out]; rfl⟩
            · have e2 : fndI [60] (sDoc ++ x ++ [62]) 1 = -1 := by
                unfold fndI
                rw [upTo_free (by rw [hdd]; simp [h60])]
              rw [e2] at hF1
              have HF1 := hid hF1
              by_cases h91 : (91 : UInt8) ∈ x
              · obtain ⟨u, hu2⟩ := upTo_mem (c := 91) (l := (sDoc ++ x ++ [62]).drop 1) (by rw [hdd]; simp [h91])
                have e3 : fndI [91] (sDoc ++ x ++ [62]) 1 = ((1 + u.1.length : Nat) : Int) := by unfold fndI; rw [hu2]
                rw [e3] at hF2
                obtain ⟨g, hg⟩ : ∃ g, g = 1 + u.1.length := ⟨_, rfl⟩
                rw [← hg] at hF2
                have c1 : (0 : Int) ≤ (g : Int) := by omega
                have HF2 := hid hF2
                have HR : Hid (partO y = none) := hid (by rw [hP2, if_pos (.inl h91)])
                clear hP hP2 hu hu2 hd hp hz hpl hul hul1 hm hme e1 e2 e3 hF1 hF2 hdd hm0 h60 h91 hg
                generalize sDoc ++ x ++ [62] = sx at *
                go_enter Tryz.func35, Tryz.ntmps35
                go_wp2_with (first | (go_at_call 56; first | ((with_reducible refine (G1.out _).mono ?_); rintro e w1 ⟨rfl, rfl⟩) | ((with_reducible refine (G2.out _).mono ?_); rintro e w1 ⟨rfl, rfl⟩) | ((with_reducible refine (G3.out _).mono ?_); rintro e w1 ⟨rfl, rfl⟩) | ((with_reducible refine (G4.out _).mono ?_); rintro e w1 ⟨rfl, rfl⟩)) | (go_at_call 57; (with_reducible refine (HU.out _).mono ?_); rintro e w1 ⟨rfl, rfl⟩) | (go_at_call 33; first | ((with_reducible refine (HF1.out _).mono ?_); rintro e w1 ⟨rfl, rfl⟩) | ((with_reducible refine (HF2.out _).mono ?_); rintro e w1 ⟨rfl, rfl⟩)))
                go_ret3
                exact ⟨Below.refl _ _, by rw [HR.out]; rfl⟩
              · have e3 : fndI [91] (sDoc ++ x ++ [62]) 1 = -1 := by
                  unfold fndI
                  rw [upTo_free (by rw [hdd]; simp [h91])]
                rw [e3] at hF2
                have HF2 := hid hF2
                have HR : Hid (partO y = some (.txt [], m)) := hid (by rw [hP2, if_neg (fun k => k.elim h91 h60)])
                clear hP hP2 hu hd hp hz hpl hul hul1 hm hme e1 e2 e3 hF1 hF2 hdd hm0 h60 h91
                generalize sDoc ++ x ++ [62] = sx at *
                go_enter Tryz.func35, Tryz.ntmps35
                go_wp2_with (first | (go_at_call 56; first | ((with_reducible refine (G1.out _).mono ?_); rintro e w1 ⟨rfl, rfl⟩) | ((with_reducible refine (G2.out _).mono ?_); rintro e w1 ⟨rfl, rfl⟩) | ((with_reducible refine (G3.out _).mono ?_); rintro e w1 ⟨rfl, rfl⟩) | ((with_reducible refine (G4.out _).mono ?_); rintro e w1 ⟨rfl, rfl⟩)) | (go_at_call 57; (with_reducible refine (HU.out _).mono ?_); rintro e w1 ⟨rfl, rfl⟩) | (go_at_call 33; first | ((with_reducible refine (HF1.out _).mono ?_); rintro e w1 ⟨rfl, rfl⟩) | ((with_reducible refine (HF2.out _).mono ?_); rintro e w1 ⟨rfl, rfl⟩)))
                go_ret3
                exact ⟨Below.refl _ _, by rw [HR.out]; rfl⟩
        | false =>
          rw [p4] at G4
          cases p5 : sEnd.isPrefixOf (60 :: y) with
          | true =>
            rw [p5] at G5
            obtain ⟨z, hz⟩ := List.isPrefixOf_iff_prefix.1 p5
            have hp : 60 :: y = sEnd ++ z := hz.symm
            have hpl : y.length + 1 = z.length + 2 := by rw [← hsl, hp]; simp [sEnd]
            have hd : (60 :: y).drop 2 = z := by rw [hp]; rfl
            have x0 := fun wx => s_from (a := 60 :: y) (k := 2) (by omega) (q := 2) rfl wx
            rw [hd] at x0
            have HN := hid (name_any z (by omega))
            obtain ⟨ht1, ht2⟩ := name_take z
            have hln := nameX_len z
            have hP : partX (60 :: y) = (endX z).map fun x => (.tags x.1, x.2) := by rw [hp]; exact partX_end z
            have hE1 := fun h => endX_bad (r := z) h
            have hE2 := fun q hn h => endX_ok (r := z) (q := q) hn h
            generalize nameX z = nx at *
            obtain ⟨n, rest⟩ := nx
            simp only at HN ht1 ht2 hln hE1 hE2
            have hns : (mk n).size = n.length := mk_size n
            have hdz : (60 :: y).drop (2 + n.length) = rest := by rw [← List.drop_drop, hd, ht2]
            have x1 := fun wx => s_from (a := 60 :: y) (k := 2 + n.length) (by omega) (q := 2 + (n.length : Int)) (by omega) wx
            rw [hdz] at x1
            have HB1 := hid (blanks_any rest (by omega))
            have hbl := blkN_le rest
            have hdr := drop_blk rest
            rw [← hdz, List.drop_drop, hdz] at hdr
            generalize hb1 : blkN rest = b1 at *
            have x2 := fun wx => s_from (a := 60 :: y) (k := 2 + n.length + b1) (by omega) (q := 2 + (n.length : Int) + (b1 : Int)) (by omega) wx
            rw [hdr] at x2
            have hdl : (rest.dropWhile spcX).length + (2 + n.length + b1) = y.length + 1 := by rw [← hdr, List.length_drop]; omega
            have G6 := hid (begs_any (rest.dropWhile spcX) ⟨#[62]⟩)
            rw [show (⟨#[62]⟩ : ByteArray).data.toList = [62] from rfl] at G6
            by_cases hn : n = []
            · have HR : Hid (partO y = none) := hid (by unfold partO; rw [hP, hE1 (.inl hn)]; rfl)
              have q1 := mkE_nil
              have hn0 : n.length = 0 := by rw [hn]; rfl
              have hzr : z = rest := by rw [← hd, ← hdz, hn0]
              rw [hzr] at x0 HN
              subst hn
              have hns2 : (mk ([] : List UInt8)).size = 0 := rfl
              have hbl2 : b1 ≤ 90000 := by omega
              clear hE1 hE2 ht1 ht2 hln hdz hdr hdl hb1 hd hp hz hpl hP hns hn0 x1
              go_enter Tryz.func35, Tryz.ntmps35
              go_wp2_with (first | (go_at_call 56; first | ((with_reducible refine (G1.out _).mono ?_); rintro e w1 ⟨rfl, rfl⟩) | ((with_reducible refine (G2.out _).mono ?_); rintro e w1 ⟨rfl, rfl⟩) | ((with_reducible refine (G3.out _).mono ?_); rintro e w1 ⟨rfl, rfl⟩) | ((with_reducible refine (G4.out _).mono ?_); rintro e w1 ⟨rfl, rfl⟩) | ((with_reducible refine (G5.out _).mono ?_); rintro e w1 ⟨rfl, rfl⟩)) | (go_at_call 58; (with_reducible refine (HN.out _).mono ?_); rintro e w1 ⟨rfl, rfl⟩) | (go_at_call 59; (with_reducible refine (HB1.out _).mono ?_); rintro e w1 ⟨rfl, rfl⟩))
              go_ret3
              exact ⟨Below.refl _ _, by rw [HR.out]; rfl⟩
            · obtain ⟨-, q1, -⟩ := mkE_cons hn
              cases p6 : ([62] : List UInt8).isPrefixOf (rest.dropWhile spcX) with
              | false =>
                rw [p6] at G6
                have HR : Hid (partO y = none) := hid (by unfold partO; rw [hP, hE1 (.inr p6)]; rfl)
                have hbl2 : 2 + n.length + b1 ≤ 90002 := by omega
                clear hE1 hE2 ht1 ht2 hln hdz hdr hdl hb1 hd hp hz hpl hP p6
                generalize rest.dropWhile spcX = rd at *
                go_enter Tryz.func35, Tryz.ntmps35
                go_wp2_with (first | (go_at_call 56; first | ((with_reducible refine (G1.out _).mono ?_); rintro e w1 ⟨rfl, rfl⟩) | ((with_reducible refine (G2.out _).mono ?_); rintro e w1 ⟨rfl, rfl⟩) | ((with_reducible refine (G3.out _).mono ?_); rintro e w1 ⟨rfl, rfl⟩) | ((with_reducible refine (G4.out _).mono ?_); rintro e w1 ⟨rfl, rfl⟩) | ((with_reducible refine (G5.out _).mono ?_); rintro e w1 ⟨rfl, rfl⟩) | ((with_reducible refine (G6.out _).mono ?_); rintro e w1 ⟨rfl, rfl⟩)) | (go_at_call 58; (with_reducible refine (HN.out _).mono ?_); rintro e w1 ⟨rfl, rfl⟩) | (go_at_call 59; (with_reducible refine (HB1.out _).mono ?_); rintro e w1 ⟨rfl, rfl⟩))
                go_ret3
                exact ⟨Below.refl _ _, by rw [HR.out]; rfl⟩
              | true =>
                rw [p6] at G6
                obtain ⟨q, hq⟩ := List.isPrefixOf_iff_prefix.1 p6
                have hq2 : rest.dropWhile spcX = 62 :: q := hq.symm
                have HR : Hid (partO y = some (.tags [closeT n], 2 + n.length + b1 + 1)) := hid (by
                  unfold partO
                  rw [hP, hE2 q hn hq2]
                  rw [hq2] at hdl
                  simp only [List.length_cons] at hdl
                  simp only [Option.map_some, Option.some.injEq, Prod.mk.injEq, true_and]
                  omega)
                have hbl2 : 2 + n.length + b1 ≤ 90002 := by omega
                have HX : Hid (RkNew w (w.alloc (.cells #[.int .i64 2, .string (mk n), .slice none 0 0, .string ⟨#[]⟩] 50)) (.slice (some ⟨w.heap.size, 0, none⟩) 1 1) [closeT n]) := hid ⟨[⟨2, n, none, 0, 0, []⟩], rAt_box rkTy_ok (own.new w _ _) rfl, ⟨rfl, fun i x t hx ht => by
                  match i, hx, ht with
                  | 0, hx, ht => cases hx; cases ht; exact ⟨rfl, rfl, rfl, rAt_nil _⟩
                  | i + 1, hx, ht => simp at hx⟩, fun x hx g hg => by simp at hx; subst hx; simp [Value.ownBlock] at hg⟩
                clear hE1 hE2 ht1 ht2 hln hdz hdr hdl hb1 hd hp hz hpl hP p6 hq hq2
                generalize rest.dropWhile spcX = rd at *
                go_enter Tryz.func35, Tryz.ntmps35
                go_wp2_with (first | (go_at_call 56; first | ((with_reducible refine (G1.out _).mono ?_); rintro e w1 ⟨rfl, rfl⟩) | ((with_reducible refine (G2.out _).mono ?_); rintro e w1 ⟨rfl, rfl⟩) | ((with_reducible refine (G3.out _).mono ?_); rintro e w1 ⟨rfl, rfl⟩) | ((with_reducible refine (G4.out _).mono ?_); rintro e w1 ⟨rfl, rfl⟩) | ((with_reducible refine (G5.out _).mono ?_); rintro e w1 ⟨rfl, rfl⟩) | ((with_reducible refine (G6.out _).mono ?_); rintro e w1 ⟨rfl, rfl⟩)) | (go_at_call 58; (with_reducible refine (HN.out _).mono ?_); rintro e w1 ⟨rfl, rfl⟩) | (go_at_call 59; (with_reducible refine (HB1.out _).mono ?_); rintro e w1 ⟨rfl, rfl⟩))
                go_ret3
                exact ⟨(Below.refl _ _).alloc (Nat.le_refl _) _, by rw [HR.out]; exact ⟨_, _, rfl, HX.out⟩⟩
          | false =>
            rw [p5] at G5
            have hP : partO y = (tagO y).map fun x => (.tags x.1, x.2) := by
              unfold partO tagO
              rw [part_else p1 p2 p3 p4 p5]
              cases tagX y <;> rfl
            have HT := hid (tag_any y hy w)
            cases ho : tagO y with
            | none =>
              rw [ho] at HT hP
              have HR := hid hP
              clear hP ho
              go_enter Tryz.func35, Tryz.ntmps35
              go_wp2_with (first | (go_at_call 56; first | ((with_reducible refine (G1.out _).mono ?_); rintro e w1 ⟨rfl, rfl⟩) | ((with_reducible refine (G2.out _).mono ?_); rintro e w1 ⟨rfl, rfl⟩) | ((with_reducible refine (G3.out _).mono ?_); rintro e w1 ⟨rfl, rfl⟩) | ((with_reducible refine (G4.out _).mono ?_); rintro e w1 ⟨rfl, rfl⟩) | ((with_reducible refine (G5.out _).mono ?_); rintro e w1 ⟨rfl, rfl⟩)) | (go_at_call 60; (with_reducible refine (tag_none HT.out).mono ?_); rintro e w2 ⟨hb2, rfl⟩))
              go_ret3
              exact ⟨hb2, by rw [HR.out]; rfl⟩
            | some x =>
              obtain ⟨L, m⟩ := x
              rw [ho] at HT hP
              have HR := hid hP
              clear hP ho
              go_enter Tryz.func35, Tryz.ntmps35
              go_wp2_with (first | (go_at_call 56; first | ((with_reducible refine (G1.out _).mono ?_); rintro e w1 ⟨rfl, rfl⟩) | ((with_reducible refine (G2.out _).mono ?_); rintro e w1 ⟨rfl, rfl⟩) | ((with_reducible refine (G3.out _).mono ?_); rintro e w1 ⟨rfl, rfl⟩) | ((with_reducible refine (G4.out _).mono ?_); rintro e w1 ⟨rfl, rfl⟩) | ((with_reducible refine (G5.out _).mono ?_); rintro e w1 ⟨rfl, rfl⟩)) | (go_at_call 60; (with_reducible refine (tag_some HT.out).mono ?_); rintro e w2 ⟨hb2, a, c, rfl, hN⟩))
              go_ret3
              exact ⟨hb2, by rw [HR.out]; exact ⟨_, _, rfl, hN⟩⟩
end Go.Proofs.YtjoeamlidmmioaaGreatDoor

