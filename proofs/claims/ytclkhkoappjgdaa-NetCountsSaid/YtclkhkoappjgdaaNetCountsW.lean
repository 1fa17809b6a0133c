/-
  LAYER 6 (net): NetCounts: its walk.
-/
import Derived.Test.YtclkhkoappjgdaaNpActs
namespace Go.Proofs.Ytclkhkoappjgdaa
open Go.RowKit Go.Maps
set_option linter.unusedVariables false
set_option maxRecDepth 100000

def CountRel (w : World) (r n : Nat) (u6 u7 u8 : Value) (wr : World) : Prop :=
  ∃ (k m t : Nat) (s : Nt), k ≤ n ∧ u6 = .int .i64 (m : Int) ∧ u7 = .int .i64 (t : Int) ∧ u8 = .int .i64 (k : Int) ∧ PHas w wr noX r s ∧ NtOk s k ∧ Hid (m = t + s.lost + s.L.length ∧ m ≤ k)
set_option maxHeartbeats 8000000 in
theorem netCounts_walk (v : Value) (l : List Na) (w : World) (hv : RAt naTy w v l) (hx : ∀ a ∈ l, NaIn w a) (hl : l.length ≤ maxLen) : Calls Try.prog 4 #[v] w (ShownPost w) := by
  have HS := hid (shown_any w)
  have HSm := hid (fun wx (hb : Below w.heap.size w wx) => small_any wx v l (hv.below hb) hl)
  cases hs : smallN l with
  | false =>
    rw [hs] at HSm
    obtain ⟨ao, cap, rfl, _⟩ := na_at hv
    clear hv hx hs
    go_enter Try.func4, Try.ntmps4
    go_wp2_with (first
      | (go_at_call 8; (with_reducible refine HS.out.mono ?_); rintro e w1 ⟨rfl, hb1⟩)
      | (go_at_call 9; (with_reducible refine (HSm.out _ hb1).mono ?_); rintro e w2 ⟨rfl, rfl⟩))
    go_ret
    exact ⟨rfl, hb1⟩
  | true =>
    rw [hs] at HSm
    have hlen := small_len hs
    obtain ⟨ao, cap, rfl, hat⟩ := act_at hv hx hs
    have HAt := hid hat
    have HN := hid (fun wx (hb : Below w.heap.size w wx) => qNew (w0 := w) (w := wx) (X := noX) hb (fun _ e => e.elim))
    clear hv hx hs hat hl
    generalize l.length = n at *
    go_enter Try.func4, Try.ntmps4
    go_wp2_with (first
      | (go_at_call 8; (with_reducible refine HS.out.mono ?_); rintro e w1 ⟨rfl, hb1⟩)
      | (go_at_call 9; (with_reducible refine (HSm.out _ hb1).mono ?_); rintro e w2 ⟨rfl, rfl⟩)
      | (go_at_call 10; (with_reducible refine (HN.out _ hb1).mono ?_); rintro e w2 ⟨r, rfl, hh0⟩; have hh := hid hh0.has; clear hh0))
    go_loopw [6, 7, 8] (CountRel w r n) (fun _ _ u _ => n - (intOf u).toNat)
    case atStart => exact ⟨0, 0, 0, nz, Nat.zero_le _, rfl, rfl, rfl, hh.out, ⟨by simp, by simp⟩, hid ⟨rfl, Nat.le_refl _⟩⟩
    case round =>
      obtain ⟨k, m, t, s, hk, rfl, rfl, rfl, hh0, hok, HC⟩ := hrel
      have hh := hid hh0
      clear hh0
      have hmI := HC.out.2
      have htI : t ≤ m := by have := HC.out.1; omega
      have hlo := hok.lost
      by_cases hkn : k < n
      · have hknI : (k : Int) < (n : Int) := by omega
        obtain ⟨a, G, sb, so, rfl, _, hA, hcs⟩ := HAt.out k hkn
        have HD := hid (does_act hh.out (by omega) hA)
        have HP := hid (fun wx => pick_any a.op 10 wx (by omega) (by omega) hA.inn.op.1 hA.inn.op.2)
        have hr := pickZ_range a.op 10 (by omega)
        have hcnt := actN_counts s a G
        have hok2 := actN_ok hok a G
        obtain ⟨c0, c1, c2, c3, c4, c5⟩ := hcs _ hh.out.below
        have HCs := hid (fun wx o (hb : Below w.heap.size w wx) => (hcs (wx.alloc o) (hb.alloc hb.size o)).1)
        clear hcs
        generalize pickZ a.op 10 = o at *
        generalize actN s a G = q at *
        obtain ⟨s1, x1, b1⟩ := q
        simp only at hcnt hok2
        have hW6 : IntKind.i64.wrap ((m : Int) + 1) = (m : Int) + 1 := IntWalk.i64_in _ (by omega)
        have hW7 : IntKind.i64.wrap ((t : Int) + 1) = (t : Int) + 1 := IntWalk.i64_in _ (by omega)
        have HNx : Hid (∀ wx m' t', PHas w wx noX r s1 → m' = t' + s1.lost + s1.L.length → m' ≤ k + 1 → CountRel w r n (.int .i64 ((m' : Nat) : Int)) (.int .i64 ((t' : Nat) : Int)) (.int .i64 ((k : Int) + 1)) wx) := hid (fun wx m' t' h1 h2 h3 => ⟨k + 1, m', t', s1, by omega, rfl, rfl, rfl, h1, hok2, hid ⟨h2, h3⟩⟩)
        unfold madeN tookN at hcnt
        clear hA hok hok2 hlo
        by_cases ho3 : o < 3
        · have q3 : (o == 3) = false := beq_eq_false_iff_ne.2 (by omega)
          have q4 : (o == 4) = false := beq_eq_false_iff_ne.2 (by omega)
          rw [if_neg (by omega), if_pos (.inl ho3)] at hcnt
          have HCnt := hid hcnt
          clear hcnt
          go_wp2_with (first
            | (go_at_call 14; (with_reducible refine HD.out.mono ?_); rintro e w3 ⟨rfl, hg⟩; have hh2 := hid (hg.has.later ((Below.refl _ _).alloc (Nat.le_refl _) (.cells #[.int .i64 x1.fr, .int .i64 x1.to_, .string x1.dt] 37))); have d0 := HCs.out w3 (.cells #[.int .i64 x1.fr, .int .i64 x1.to_, .string x1.dt] 37) hg.has.below; clear hg)
            | (go_at_call 11; (with_reducible refine (HP.out _).mono ?_); rintro e w4 ⟨rfl, rfl⟩))
          go_roundw
          case rel =>
            have := HNx.out _ (m + 1) t hh2.out (by have := HC.out.1; have := HCnt.out; omega) (by omega)
            push_cast at this
            exact this
          case measure => simp [intOf]; omega
        have hn3 : 3 ≤ o := by omega
        by_cases ho5 : o = 5
        · subst ho5
          cases b1 with
          | true =>
            rw [if_neg (by simp), if_pos (by simp)] at hcnt
            have HCnt := hid hcnt
            clear hcnt
            go_wp2_with (first
              | (go_at_call 14; (with_reducible refine HD.out.mono ?_); rintro e w3 ⟨rfl, hg⟩; have hh2 := hid (hg.has.later ((Below.refl _ _).alloc (Nat.le_refl _) (.cells #[.int .i64 x1.fr, .int .i64 x1.to_, .string x1.dt] 37))); have d0 := HCs.out w3 (.cells #[.int .i64 x1.fr, .int .i64 x1.to_, .string x1.dt] 37) hg.has.below; clear hg)
              | (go_at_call 11; (with_reducible refine (HP.out _).mono ?_); rintro e w4 ⟨rfl, rfl⟩))
            go_roundw
            case rel =>
              have := HNx.out _ (m + 1) t hh2.out (by have := HC.out.1; have := HCnt.out; omega) (by omega)
              push_cast at this
              exact this
            case measure => simp [intOf]; omega
          | false =>
            rw [if_neg (by simp), if_neg (by simp)] at hcnt
            have HCnt := hid hcnt
            clear hcnt
            go_wp2_with (first
              | (go_at_call 14; (with_reducible refine HD.out.mono ?_); rintro e w3 ⟨rfl, hg⟩; have hh2 := hid (hg.has.later ((Below.refl _ _).alloc (Nat.le_refl _) (.cells #[.int .i64 x1.fr, .int .i64 x1.to_, .string x1.dt] 37))); have d0 := HCs.out w3 (.cells #[.int .i64 x1.fr, .int .i64 x1.to_, .string x1.dt] 37) hg.has.below; clear hg)
              | (go_at_call 11; (with_reducible refine (HP.out _).mono ?_); rintro e w4 ⟨rfl, rfl⟩))
            go_roundw
            case rel =>
              have := HNx.out _ m t hh2.out (by have := HC.out.1; have := HCnt.out; omega) (by omega)
              push_cast at this
              exact this
            case measure => simp [intOf]; omega
        have q5 : (o == 5) = false := beq_eq_false_iff_ne.2 ho5
        by_cases ho34 : o = 3 ∨ o = 4
        · cases b1 with
          | true =>
            rw [if_pos ⟨ho34, rfl⟩, if_neg (by omega)] at hcnt
            have HCnt := hid hcnt
            clear hcnt
            rcases ho34 with rfl | rfl
            all_goals
              go_wp2_with (first
                | (go_at_call 14; (with_reducible refine HD.out.mono ?_); rintro e w3 ⟨rfl, hg⟩; have hh2 := hid (hg.has.later ((Below.refl _ _).alloc (Nat.le_refl _) (.cells #[.int .i64 x1.fr, .int .i64 x1.to_, .string x1.dt] 37))); have d0 := HCs.out w3 (.cells #[.int .i64 x1.fr, .int .i64 x1.to_, .string x1.dt] 37) hg.has.below; clear hg)
                | (go_at_call 11; (with_reducible refine (HP.out _).mono ?_); rintro e w4 ⟨rfl, rfl⟩))
              go_roundw
              case rel =>
                have := HNx.out _ m (t + 1) hh2.out (by have := HC.out.1; have := HCnt.out; omega) (by omega)
                push_cast at this
                exact this
              case measure => simp [intOf]; omega
          | false =>
            rw [if_neg (by simp), if_neg (by omega)] at hcnt
            have HCnt := hid hcnt
            clear hcnt
            rcases ho34 with rfl | rfl
            all_goals
              go_wp2_with (first
                | (go_at_call 14; (with_reducible refine HD.out.mono ?_); rintro e w3 ⟨rfl, hg⟩; have hh2 := hid (hg.has.later ((Below.refl _ _).alloc (Nat.le_refl _) (.cells #[.int .i64 x1.fr, .int .i64 x1.to_, .string x1.dt] 37))); have d0 := HCs.out w3 (.cells #[.int .i64 x1.fr, .int .i64 x1.to_, .string x1.dt] 37) hg.has.below; clear hg)
                | (go_at_call 11; (with_reducible refine (HP.out _).mono ?_); rintro e w4 ⟨rfl, rfl⟩))
              go_roundw
              case rel =>
                have := HNx.out _ m t hh2.out (by have := HC.out.1; have := HCnt.out; omega) (by omega)
                push_cast at this
                exact this
              case measure => simp [intOf]; omega
        have q3 : (o == 3) = false := beq_eq_false_iff_ne.2 (by omega)
        have q4 : (o == 4) = false := beq_eq_false_iff_ne.2 (by omega)
        rw [if_neg (fun h => ho34 h.1), if_neg (by omega)] at hcnt
        have HCnt := hid hcnt
        clear hcnt
        go_wp2_with (first
          | (go_at_call 14; (with_reducible refine HD.out.mono ?_); rintro e w3 ⟨rfl, hg⟩; have hh2 := hid (hg.has.later ((Below.refl _ _).alloc (Nat.le_refl _) (.cells #[.int .i64 x1.fr, .int .i64 x1.to_, .string x1.dt] 37))); have d0 := HCs.out w3 (.cells #[.int .i64 x1.fr, .int .i64 x1.to_, .string x1.dt] 37) hg.has.below; clear hg)
          | (go_at_call 11; (with_reducible refine (HP.out _).mono ?_); rintro e w4 ⟨rfl, rfl⟩))
        go_roundw
        case rel =>
          have := HNx.out _ m t hh2.out (by have := HC.out.1; have := HCnt.out; omega) (by omega)
          push_cast at this
          exact this
        case measure => simp [intOf]; omega
      · obtain rfl : k = n := by omega
        have HL := hid (qLost hh.out)
        have HFl := hid (fun wx (h : PHas w wx noX r s) => qFlight h)
        have hfew := hok.few
        have hC1 := HC.out.1
        have hs1 : IntKind.i64.wrap ((t : Int) + (s.lost : Int)) = (t : Int) + (s.lost : Int) := IntWalk.i64_in _ (by omega)
        have hs2 : IntKind.i64.wrap ((t : Int) + (s.lost : Int) + (s.L.length : Int)) = (t : Int) + (s.lost : Int) + (s.L.length : Int) := IntWalk.i64_in _ (by omega)
        have hq : ((m : Int) == (t : Int) + (s.lost : Int) + (s.L.length : Int)) = true := beq_iff_eq.2 (by omega)
        clear hok hC1
        go_wp2_with (first
          | (go_at_call 17; (with_reducible refine HL.out.mono ?_); rintro e w4 ⟨rfl, rfl⟩)
          | (go_at_call 18; (with_reducible refine (HFl.out _ hh.out).mono ?_); rintro e w5 ⟨⟨a2, cap2, rfl, -⟩, hg⟩; have hbF := hid hg.has.below; clear hg))
        go_ret
        exact ⟨by first | rfl | simp [hq], hbF.out⟩
end Go.Proofs.Ytclkhkoappjgdaa
