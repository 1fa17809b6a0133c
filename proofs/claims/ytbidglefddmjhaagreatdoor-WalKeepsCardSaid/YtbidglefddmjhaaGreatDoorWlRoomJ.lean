import Derived.Test.YtbidglefddmjhaaGreatDoorWlLastJ
/-
  LAYER 3 (wal): the segment that entries are written to.
-/
namespace Go.Proofs.YtbidglefddmjhaaGreatDoor
open Go.RowKit Go.Maps
set_option linter.unusedVariables false
set_option maxRecDepth 100000

theorem lastL_len {s : Dk} (h : s.Ok) : (lastL s).1.length ≤ 24 ∧ (lastL s).2.1 ≤ 10000000 := by
  unfold lastL
  cases hl : (segsL s.L).getLast? with
  | none =>
    refine ⟨?_, by simp⟩
    have := Lib.itoa_length_le 1 (by omega) (by omega)
    show (segN 1).length ≤ 24
    unfold segN
    simp
    omega
  | some n => exact ⟨((segsL_in h).2 n (List.mem_of_getLast? hl)).1, rd_len h n⟩
abbrev fullL (s : Dk) : Prop := (lastL s).2.2 ≠ 0 ∨ (lastL s).2.1 < 2000 ∨ segV (lastL s).1 = 999999 ∨ 20 ≤ (segsL s.L).length
def roomL (s : Dk) : List UInt8 × Nat × Int := if fullL s then lastL s else (segN (segV (lastL s).1 + 1 : Nat), 0, 0)
set_option maxHeartbeats 4000000 in
theorem room_any {w : World} {S : Nat → Prop} {p a : Nat} {s : Dk} {B0 : Nat} (h : DiskIs w S a s) (hp : AtDisk w S p a) (hg : Glob w B0) (hB0 : B0 ≤ w.heap.size) :
    Calls Tryz.prog 109 #[.pointer (some ⟨p, 0, none⟩)] w (LastPost w (roomL s)) := by
  have hok : s.Ok := by obtain ⟨mb, F, h⟩ := h; exact h.ok
  have hll := lastL_len hok
  have HL := hid (last_any h hp hg hB0)
  have HN := hid (fun w1 (hb : Below w.heap.size w w1) => segNum_any (mk (lastL s).1) w1 (hg.below hb hB0) (by have := hb.size; omega) (by rw [mk_size]; omega))
  have hvl := segV_le (lastL s).1
  have HM := hid (fun w1 (hb : Below w.heap.size w w1) => segName_any ((segV (lastL s).1 + 1 : Nat) : Int) w1 (hg.below hb hB0) ⟨by omega, by omega⟩)
  have HS := hid (fun w1 (hb : Below w.heap.size w w1) => show Calls Tryz.prog 19 #[.pointer (some ⟨p, 0, none⟩)] w1 (fun e w' => ∃ ao cap, e = .returned (.slice ao (segsL s.L).length cap) ∧ Below w1.heap.size w1 w') by
    refine (segments_any (h.below hb) (hp.below hb).2.2 (hg.below hb hB0) (by have := hb.size; omega)).mono ?_
    rintro e w' ⟨v, rfl, hv, hb2⟩
    obtain ⟨ao, cap, rfl⟩ := names_slice hv
    exact ⟨ao, cap, rfl, hb2⟩)
  have hsl := (segsL_in hok).1
  have hmd : (mk (lastL s).1).data.toList = (lastL s).1 := rfl
  have hW : IntKind.i64.wrap ((segV (lastL s).1 : Int) + 1) = ((segV (lastL s).1 + 1 : Nat) : Int) := by rw [show ((segV (lastL s).1 : Int) + 1) = ((segV (lastL s).1 + 1 : Nat) : Int) by omega]; exact IntWalk.i64_in _ (by omega)
  rw [hmd] at HN
  unfold roomL fullL LastPost at *
  clear h hp hg hok hmd
  generalize lastL s = r at *
  obtain ⟨n, z, k⟩ := r
  simp only at *
  have hW2 : IntKind.i64.wrap ((segsL s.L).length : Int) = ((segsL s.L).length : Int) := IntWalk.i64_in _ (by omega)
  generalize (segsL s.L).length = m at *
  generalize hnv : segV n = nv at *
  generalize hnx : nv + 1 = nx at *
  by_cases hk : k = 0
  · subst hk
    by_cases hz : z < 2000
    · rw [if_pos (.inr (.inl hz))]
      simp only
      have hzI : (z : Int) < 2000 := by omega
      go_enter Tryz.func109, Tryz.ntmps109
      go_wp2_with (first
        | (go_at_call 111; (with_reducible refine HL.out.mono ?_); rintro e w1 ⟨rfl, hb1⟩)
        | (go_at_call 123; (with_reducible refine (HN.out _ hb1).mono ?_); rintro e w2 ⟨rfl, hb2⟩; have hb12 := hb1.trans (hb2.mono hb1.size)))
      go_ret3
      exact ⟨rfl, hb12⟩
    · have hzI : ¬ (z : Int) < 2000 := by omega
      by_cases hv : nv = 999999
      · rw [if_pos (.inr (.inr (.inl hv)))]
        simp only
        have hvI : (nv : Int) = 999999 := by omega
        rw [hvI] at HN
        go_enter Tryz.func109, Tryz.ntmps109
        go_wp2_with (first
          | (go_at_call 111; (with_reducible refine HL.out.mono ?_); rintro e w1 ⟨rfl, hb1⟩)
          | (go_at_call 123; (with_reducible refine (HN.out _ hb1).mono ?_); rintro e w2 ⟨rfl, hb2⟩; have hb12 := hb1.trans (hb2.mono hb1.size)))
        go_ret3
        exact ⟨rfl, hb12⟩
      · have hvI : ¬ (nv : Int) = 999999 := by omega
        by_cases hm : 20 ≤ m
        · rw [if_pos (.inr (.inr (.inr hm)))]
          simp only
          have hmI : 20 ≤ (m : Int) := by omega
          go_enter Tryz.func109, Tryz.ntmps109
          go_wp2_with (first
            | (go_at_call 111; (with_reducible refine HL.out.mono ?_); rintro e w1 ⟨rfl, hb1⟩)
            | (go_at_call 123; (with_reducible refine (HN.out _ hb1).mono ?_); rintro e w2 ⟨rfl, hb2⟩; have hb12 := hb1.trans (hb2.mono hb1.size))
            | (go_at_call 19; (with_reducible refine (HS.out _ hb12).mono ?_); rintro e w3 ⟨ao, cap, rfl, hb3⟩; have hb13 := hb12.trans (hb3.mono hb12.size)))
          go_ret3
          exact ⟨rfl, hb13⟩
        · rw [if_neg (by intro e; rcases e with e | e | e | e; exact e rfl; exact hz e; exact hv e; exact hm e)]
          simp only
          have hmI : ¬ 20 ≤ (m : Int) := by omega
          have d1 : decide ((z : Int) < 2000) = false := decide_eq_false hzI
          have d2 : ((nv : Int) == 999999) = false := beq_false_of_ne hvI
          have d3 : decide (20 ≤ (m : Int)) = false := decide_eq_false hmI
          go_enter Tryz.func109, Tryz.ntmps109
          go_wp2_with (first
            | (go_at_call 111; (with_reducible refine HL.out.mono ?_); rintro e w1 ⟨rfl, hb1⟩)
            | (go_at_call 123; (with_reducible refine (HN.out _ hb1).mono ?_); rintro e w2 ⟨rfl, hb2⟩; have hb12 := hb1.trans (hb2.mono hb1.size))
            | (go_at_call 19; (with_reducible refine (HS.out _ hb12).mono ?_); rintro e w3 ⟨ao, cap, rfl, hb3⟩; have hb13 := hb12.trans (hb3.mono hb12.size))
            | (go_at_call 75; (with_reducible refine (HM.out _ hb13).mono ?_); rintro e w4 ⟨rfl, hb4⟩))
          go_ret3
          exact ⟨rfl, hb13.trans (hb4.mono hb13.size)⟩
  · rw [if_pos (.inl hk)]
    simp only
    go_enter Tryz.func109, Tryz.ntmps109
    go_wp2_with (first
      | (go_at_call 111; (with_reducible refine HL.out.mono ?_); rintro e w1 ⟨rfl, hb1⟩)
      | (go_at_call 123; (with_reducible refine (HN.out _ hb1).mono ?_); rintro e w2 ⟨rfl, hb2⟩; have hb12 := hb1.trans (hb2.mono hb1.size)))
    go_ret3
    exact ⟨rfl, hb12⟩
end Go.Proofs.YtbidglefddmjhaaGreatDoor

