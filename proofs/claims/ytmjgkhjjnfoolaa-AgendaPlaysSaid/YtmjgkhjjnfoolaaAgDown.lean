/-
  LAYER 5 (agenda): container/heap over the queue: down, Remove.
-/
import Derived.Test.YtmjgkhjjnfoolaaAgHeap
namespace Go.Proofs.Ytmjgkhjjnfoolaa
open Go.RowKit Go.Maps
set_option linter.unusedVariables false
set_option maxRecDepth 100000

def DownRel (w : World) (p : Nat) (F : Nat → Prop) (L : List It) (n i0 : Nat) (u : Value) (wr : World) : Prop :=
  ∃ (i : Nat) (L' : List It), u = .int .i64 i ∧ i < n ∧ DownInv L' n i0 i ∧ SiftRel w p F L n L' wr
/-- What down leaves. -/
structure DownEnd (w : World) (p : Nat) (F : Nat → Prop) (L : List It) (n i0 : Nat) (b : Bool) (L' : List It) (w' : World) : Prop where
  s : SiftRel w p F L n L' w'
  yes : b = true → Hp L' n
  no : b = false → UpInv L' n i0
theorem DownEnd.mk' {w w' : World} {p : Nat} {F : Nat → Prop} {L L' : List It} {n i0 i : Nat} (h : DownInv L' n i0 i) (hi : i < n) (s : SiftRel w p F L n L' w') (hd : ∀ c, 0 < c → c < n → (c - 1) / 2 = i → Le (gt L' i) (gt L' c)) : DownEnd w p F L n i0 (decide (i0 < i)) L' w' := by
  obtain ⟨h1, h2⟩ := h.done hd
  have h0 := h.i0i
  refine ⟨s, fun e => h1 (by simp at e; exact e), fun e => h2 (by simp at e; omega) hi⟩
set_option maxHeartbeats 8000000 in
theorem down_any {w : World} {p : Nat} {F : Nat → Prop} {L : List It} {n i0 : Nat} (h : QIs w p F L) (hn : n ≤ L.length) (hi0 : i0 < n) (hd : DownInv L n i0 i0) :
    Calls Try.prog 31 #[.iface 65 (.pointer (some ⟨p, 0, none⟩)), .int .i64 (i0 : Int), .int .i64 (n : Int)] w fun e w' => ∃ b L', e = .returned (.bool b) ∧ DownEnd w p F L n i0 b L' w' := by
  have HS : Hid (DownRel w p F L n i0 (.int .i64 i0) w) := hid ⟨i0, L, rfl, hi0, hd, List.Perm.refl _, fun _ _ => rfl, QTo.of_is h (Below.refl _ _)⟩
  have hlen := h.len
  have HL := hid h.lt
  clear h hd
  go_enter Try.func31, Try.ntmps31
  go_wp2
  go_loopw [7] (DownRel w p F L n i0) (fun i _ => n - (intOf i).toNat)
  case atStart => exact HS.out
  case round =>
    obtain ⟨i, L', rfl, hin, hI, hR⟩ := hrel
    have hll := hR.perm.length_eq
    have h0i := hI.i0i
    obtain ⟨j1, hj1⟩ : ∃ j1, 2 * i + 1 = j1 := ⟨_, rfl⟩
    obtain ⟨j2, hj2⟩ : ∃ j2, j1 + 1 = j2 := ⟨_, rfl⟩
    have hW1 : IntKind.i64.wrap (2 * (i : Int)) = 2 * (i : Int) := IntWalk.i64_in _ (by omega)
    have hW2 : IntKind.i64.wrap (2 * (i : Int) + 1) = (j1 : Int) := by rw [show 2 * (i : Int) + 1 = (j1 : Int) by omega]; exact IntWalk.i64_in _ (by omega)
    have hW3 : IntKind.i64.wrap ((j1 : Int) + 1) = (j2 : Int) := by rw [show (j1 : Int) + 1 = (j2 : Int) by omega]; exact IntWalk.i64_in _ (by omega)
    have HJ := hid (And.intro hj1 hj2)
    have HI := hid hI
    have HR := hid hR
    by_cases hb : j1 < n
    · have hjI : (j1 : Int) < (n : Int) := by omega
      by_cases hb2 : j2 < n
      · have hjI2 : (j2 : Int) < (n : Int) := by omega
        have HLess := hid (lessQ hR.q.is (i := j2) (j := j1) (by omega) (by omega))
        obtain ⟨c, hc⟩ : ∃ c, bf (gt L' j2) (gt L' j1) = c := ⟨_, rfl⟩
        rw [hc] at HLess
        have HC := hid hc
        clear hc hI hR hj1 hj2
        cases c
        · have hmin : ∀ c, 0 < c → c < n → (c - 1) / 2 = i → Le (gt L' j1) (gt L' c) := fun c h0 hc hp => by
            have := HJ.out
            rcases (show c = j1 ∨ c = j2 by omega) with rfl | rfl
            · exact Le_refl _
            · exact HC.out
          have HMin := hid hmin
          obtain ⟨d, hd⟩ : ∃ d, bf (gt L' j1) (gt L' i) = d := ⟨_, rfl⟩
          have HLess2 := hid (fun wx (hb : Below wr.heap.size wr wx) => lessQ (HR.out.q.is.below hb) (i := j1) (j := i) (by omega) (by omega))
          have HSwap := hid (fun wx (hb : Below wr.heap.size wr wx) => swapQ (HR.out.q.is.below hb) (i := i) (j := j1) (by omega) (by omega) (by have := HJ.out; omega))
          rw [hd] at HLess2
          have HD := hid hd
          clear hmin hd
          cases d
          · go_wp2_with (first | (go_at_call 49; first | ((with_reducible refine HLess.out.mono ?_); rintro e w1 ⟨rfl, hb1⟩) | ((with_reducible refine (HLess2.out _ hb1).mono ?_); rintro e w2 ⟨rfl, hb2'⟩)))
            go_ret
            exact ⟨_, L', rfl, DownEnd.mk' HI.out hin ((HR.out.below HL.out hb1).below HL.out hb2') (fun c h0 hc hp => Le_trans HD.out (HMin.out c h0 hc hp))⟩
          · go_wp2_with (first | (go_at_call 49; first | ((with_reducible refine HLess.out.mono ?_); rintro e w1 ⟨rfl, hb1⟩) | ((with_reducible refine (HLess2.out _ hb1).mono ?_); rintro e w2 ⟨rfl, hb2'⟩; have hb3 := hb1.trans (hb2'.mono hb1.size))) | (go_at_call 52; (with_reducible refine (HSwap.out _ hb3).mono ?_); rintro e w3 ⟨rfl, hq3⟩; have HQ := hid hq3; clear hq3))
            go_roundw
            case rel => exact ⟨j1, sw L' i j1, rfl, by omega, HI.out.step (by omega) (by have := HJ.out; omega) (by omega) (by have := HJ.out; omega) HMin.out HD.out, HR.out.swap HL.out hn (by omega) (by omega) (QTo.of_below hb3 HQ.out HR.out.q.is.lt)⟩
            case measure => have := HJ.out; simp [intOf]; omega
        · have hmin : ∀ c, 0 < c → c < n → (c - 1) / 2 = i → Le (gt L' j2) (gt L' c) := fun c h0 hc hp => by
            have := HJ.out
            rcases (show c = j1 ∨ c = j2 by omega) with rfl | rfl
            · exact bf_Le HC.out
            · exact Le_refl _
          have HMin := hid hmin
          obtain ⟨d, hd⟩ : ∃ d, bf (gt L' j2) (gt L' i) = d := ⟨_, rfl⟩
          have HLess2 := hid (fun wx (hb : Below wr.heap.size wr wx) => lessQ (HR.out.q.is.below hb) (i := j2) (j := i) (by omega) (by omega))
          have HSwap := hid (fun wx (hb : Below wr.heap.size wr wx) => swapQ (HR.out.q.is.below hb) (i := i) (j := j2) (by omega) (by omega) (by have := HJ.out; omega))
          rw [hd] at HLess2
          have HD := hid hd
          clear hmin hd
          cases d
          · go_wp2_with (first | (go_at_call 49; first | ((with_reducible refine HLess.out.mono ?_); rintro e w1 ⟨rfl, hb1⟩) | ((with_reducible refine (HLess2.out _ hb1).mono ?_); rintro e w2 ⟨rfl, hb2'⟩)))
            go_ret
            exact ⟨_, L', rfl, DownEnd.mk' HI.out hin ((HR.out.below HL.out hb1).below HL.out hb2') (fun c h0 hc hp => Le_trans HD.out (HMin.out c h0 hc hp))⟩
          · go_wp2_with (first | (go_at_call 49; first | ((with_reducible refine HLess.out.mono ?_); rintro e w1 ⟨rfl, hb1⟩) | ((with_reducible refine (HLess2.out _ hb1).mono ?_); rintro e w2 ⟨rfl, hb2'⟩; have hb3 := hb1.trans (hb2'.mono hb1.size))) | (go_at_call 52; (with_reducible refine (HSwap.out _ hb3).mono ?_); rintro e w3 ⟨rfl, hq3⟩; have HQ := hid hq3; clear hq3))
            go_roundw
            case rel => exact ⟨j2, sw L' i j2, rfl, by omega, HI.out.step (by omega) (by have := HJ.out; omega) (by omega) (by have := HJ.out; omega) HMin.out HD.out, HR.out.swap HL.out hn (by omega) (by omega) (QTo.of_below hb3 HQ.out HR.out.q.is.lt)⟩
            case measure => have := HJ.out; simp [intOf]; omega
      · have hjI2 : (n : Int) ≤ (j2 : Int) := by omega
        clear hI hR hj1 hj2
        have hmin : ∀ c, 0 < c → c < n → (c - 1) / 2 = i → Le (gt L' j1) (gt L' c) := fun c h0 hc hp => by
          have := HJ.out
          obtain rfl : c = j1 := by omega
          exact Le_refl _
        have HMin := hid hmin
        obtain ⟨d, hd⟩ : ∃ d, bf (gt L' j1) (gt L' i) = d := ⟨_, rfl⟩
        have HLess2 := hid (lessQ HR.out.q.is (i := j1) (j := i) (by omega) (by omega))
        have HSwap := hid (fun wx (hb : Below wr.heap.size wr wx) => swapQ (HR.out.q.is.below hb) (i := i) (j := j1) (by omega) (by omega) (by have := HJ.out; omega))
        rw [hd] at HLess2
        have HD := hid hd
        clear hmin hd
        cases d
        · go_wp2_with (go_at_call 49; (with_reducible refine HLess2.out.mono ?_); rintro e w2 ⟨rfl, hb2'⟩)
          go_ret
          exact ⟨_, L', rfl, DownEnd.mk' HI.out hin (HR.out.below HL.out hb2') (fun c h0 hc hp => Le_trans HD.out (HMin.out c h0 hc hp))⟩
        · go_wp2_with (first | (go_at_call 49; (with_reducible refine HLess2.out.mono ?_); rintro e w2 ⟨rfl, hb2'⟩) | (go_at_call 52; (with_reducible refine (HSwap.out _ hb2').mono ?_); rintro e w3 ⟨rfl, hq3⟩; have HQ := hid hq3; clear hq3))
          go_roundw
          case rel => exact ⟨j1, sw L' i j1, rfl, by omega, HI.out.step (by omega) (by have := HJ.out; omega) (by omega) (by have := HJ.out; omega) HMin.out HD.out, HR.out.swap HL.out hn (by omega) (by omega) (QTo.of_below hb2' HQ.out HR.out.q.is.lt)⟩
          case measure => have := HJ.out; simp [intOf]; omega
    · have hjI : (n : Int) ≤ (j1 : Int) := by omega
      clear hI hR hj1 hj2
      go_wp2
      go_ret
      exact ⟨_, L', rfl, DownEnd.mk' HI.out hin HR.out (fun c h0 hc hp => by have := HJ.out; omega)⟩
end Go.Proofs.Ytmjgkhjjnfoolaa
