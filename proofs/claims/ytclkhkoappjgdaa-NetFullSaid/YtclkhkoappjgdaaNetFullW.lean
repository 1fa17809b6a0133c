/-
  LAYER 6 (net): NetFull: its walk.
-/
import Derived.Test.YtclkhkoappjgdaaNpShown
import Derived.Test.YtclkhkoappjgdaaNtMath
namespace Go.Proofs.Ytclkhkoappjgdaa
open Go.RowKit Go.Maps
set_option linter.unusedVariables false
set_option maxRecDepth 100000

def fLt (i : Nat) : Lt := ⟨(i : Int), (i : Int) + 1, ⟨#[120]⟩⟩
def FullRel (w : World) (r kk : Nat) (u : Value) (wr : World) : Prop := ∃ i : Nat, i ≤ kk ∧ u = .int .i64 i ∧ PHas w wr noX r (sentN fLt i)
theorem sent_cells {w w' : World} {v : Value} {kk : Nat} (h : RMid plTy w w' v (sentN fLt kk).L) : ∃ a cap, v = .slice a (min kk 300) cap ∧ ∀ j, j < min kk 300 → ∃ g, a = some ⟨g, 0, none⟩ ∧ w'.cell? ⟨g, j * 3, none⟩ = some (.int .i64 ((kk : Int) - (min kk 300 : Nat) + j)) := by
  have hL : (sentN fLt kk).L = (List.range' (kk - min kk 300) (min kk 300)).map fLt := by rw [sentN_is]
  have hlen : (sentN fLt kk).L.length = min kk 300 := by rw [hL]; simp
  have hr := h.row
  obtain ⟨ao, cap, rfl, _⟩ := hr.slice
  refine ⟨ao, cap, by rw [hlen], fun j hj => ?_⟩
  obtain ⟨g, rfl, _, hc, _⟩ := hr.at plTy_ok (by omega)
  refine ⟨g, rfl, ?_⟩
  have := hc j (fLt (kk - min kk 300 + j)) (by rw [hL, List.getElem?_map, List.getElem?_range' hj]; simp) 0 _ rfl
  rw [show plTy.n = 3 from rfl, Nat.add_zero] at this
  rw [this]
  unfold fLt
  congr 2
  simp only
  omega
set_option maxHeartbeats 8000000 in
theorem netFull_walk (m : Int) (w : World) (hm : I64' m) : Calls Try.prog 7 #[.int .i64 m] w (ShownPost w) := by
  have HS := hid (shown_any w)
  have HN := hid (fun wx (hb : Below w.heap.size w wx) => qNew (w0 := w) (w := wx) (X := noX) hb (fun _ e => e.elim))
  have HP := hid (fun wx => pick_any m 700 wx (by omega) (by omega) hm.1 hm.2)
  have hr := pickZ_range m 700 (by omega)
  obtain ⟨kk, hkk⟩ : ∃ kk : Nat, pickZ m 700 = (kk : Int) := ⟨(pickZ m 700).toNat, by omega⟩
  rw [hkk] at HP hr
  clear hkk
  have HStep : Hid (∀ wx r (i : Nat), i < 700 → PHas w wx noX r (sentN fLt i) → Calls Try.prog 12 #[.pointer (some ⟨r, 0, none⟩), .int .i64 (i : Int), .int .i64 ((i : Int) + 1), .string ⟨#[120]⟩] wx fun e w' => e = .returned (.tuple #[]) ∧ PHas w w' noX r (sentN fLt (i + 1))) := hid (fun wx r i hi h => (qSend h (by rw [sentN_is]; show i - 300 < 100000; omega) (⟨by omega, by omega⟩) (⟨by omega, by omega⟩)).mono fun e w' ⟨he, hg⟩ => ⟨he, hg.has⟩)
  have HFl : Hid (∀ wx r, PHas w wx noX r (sentN fLt kk) → Calls Try.prog 18 #[.pointer (some ⟨r, 0, none⟩)] wx fun e w' => (∃ a cap, e = .returned (.slice a (min kk 300) cap) ∧ Hid (∀ j, j < min kk 300 → ∃ g, a = some ⟨g, 0, none⟩ ∧ w'.cell? ⟨g, j * 3, none⟩ = some (.int .i64 ((kk : Int) - (min kk 300 : Nat) + j)))) ∧ PHas w w' noX r (sentN fLt kk)) := hid (fun wx r h => (qFlight h).mono fun e w' ⟨⟨a, cap, he, hm⟩, hg⟩ => by
    obtain ⟨a', cap', hv, hc⟩ := sent_cells hm
    exact ⟨⟨a', cap', by rw [he]; exact congrArg _ hv, hid hc⟩, hg.has⟩)
  have HLo : Hid (∀ wx r, PHas w wx noX r (sentN fLt kk) → Calls Try.prog 17 #[.pointer (some ⟨r, 0, none⟩)] wx fun e w' => e = .returned (.int .i64 ((kk - 300 : Nat) : Int)) ∧ wx = w') := hid (fun wx r h => by
    have := qLost h
    rw [sentN_is] at this
    exact this)
  have HF : Hid (∀ wx r, PHas w wx noX r (sentN fLt kk) → ShownPost w (.returned (.bool true)) wx) := hid (fun wx r h => ⟨rfl, h.below⟩)
  clear hm
  go_enter Try.func7, Try.ntmps7
  go_wp2_with (first
    | (go_at_call 8; (with_reducible refine HS.out.mono ?_); rintro e w1 ⟨rfl, hb1⟩)
    | (go_at_call 10; (with_reducible refine (HN.out _ hb1).mono ?_); rintro e w2 ⟨r, rfl, hh0⟩; have hh := hid hh0.has; clear hh0)
    | (go_at_call 11; (with_reducible refine (HP.out _).mono ?_); rintro e w3 ⟨rfl, rfl⟩))
  go_loopw [6] (FullRel w r kk) (fun i _ => kk - (intOf i).toNat)
  case atStart => exact ⟨0, Nat.zero_le _, rfl, hh.out⟩
  case round =>
    obtain ⟨i, hi, rfl, hh0⟩ := hrel
    have hh := hid hh0
    clear hh0
    by_cases hlt : i < kk
    · have hltI : (i : Int) < (kk : Int) := by omega
      have hW : IntKind.i64.wrap ((i : Int) + 1) = (i : Int) + 1 := IntWalk.i64_in _ (by omega)
      go_wp2_with (go_at_call 12; (with_reducible refine (HStep.out _ _ i (by omega) hh.out).mono ?_); rintro e w4 ⟨rfl, hh1⟩; have hh2 := hid hh1; clear hh1)
      go_roundw
      case rel => exact ⟨i + 1, by omega, by go_num, hh2.out⟩
      case measure => simp [intOf]; omega
    · obtain rfl : i = kk := by omega
      have qmin : (if (300 : Int) < (i : Int) then (300 : Int) else (i : Int)) = ((min i 300 : Nat) : Int) := by split <;> omega
      have qw : IntKind.i64.wrap ((i : Int) - 300) = (i : Int) - 300 := IntWalk.i64_in _ (by omega)
      have qmax : (if (i : Int) - 300 < 0 then (0 : Int) else (i : Int) - 300) = ((i - 300 : Nat) : Int) := by split <;> omega
      have hn1 : min i 300 ≤ i := by omega
      obtain ⟨n, hn⟩ : ∃ n, min i 300 = n := ⟨_, rfl⟩
      obtain ⟨d, hd⟩ : ∃ d, i - 300 = d := ⟨_, rfl⟩
      rw [hn] at HFl qmin hn1
      rw [hd] at HLo qmax
      clear hn hd
      have qs1 : IntKind.i64.wrap ((i : Int) - (n : Int)) = (i : Int) - (n : Int) := IntWalk.i64_in _ (by omega)
      go_wp2_with (first
        | (go_at_call 18; (with_reducible refine (HFl.out _ _ hh.out).mono ?_); rintro e w4 ⟨⟨a, cap, rfl, HC⟩, hh1⟩; have hh2 := hid hh1; clear hh1)
        | (go_at_call 17; (with_reducible refine (HLo.out _ _ hh2.out).mono ?_); rintro e w5 ⟨rfl, rfl⟩))
      go_loop [8] (fun u => ∃ j : Nat, j ≤ n ∧ u = .int .i64 j) (fun u => n - (intOf u).toNat)
      case atStart => exact ⟨0, Nat.zero_le _, rfl⟩
      case round =>
        obtain ⟨j, hj, rfl⟩ := hrel
        by_cases hjn : j < n
        · have hjI : (j : Int) < (n : Int) := by omega
          obtain ⟨g, rfl, cj⟩ := HC.out j hjn
          have qs2 : IntKind.i64.wrap ((i : Int) - (n : Int) + (j : Int)) = (i : Int) - (n : Int) + (j : Int) := IntWalk.i64_in _ (by omega)
          go_wp2
          go_round
          case rel => exact ⟨j + 1, by omega, by go_num⟩
          case measure => simp [intOf]; omega
        · obtain rfl : j = n := by omega
          go_wp2
          go_ret
          exact HF.out _ _ hh2.out
end Go.Proofs.Ytclkhkoappjgdaa
