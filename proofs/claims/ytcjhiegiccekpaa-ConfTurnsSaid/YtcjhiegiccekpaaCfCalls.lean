/-
  LAYER 9 (conf): the law's same, pick; the program's calls, in words that gather what has turned since a world W.
-/
import Derived.Test.YtcjhiegiccekpaaCfProg
import Derived.BigQuiet
namespace Go.Proofs.Ytcjhiegiccekpaa
open Go.RowKit
set_option linter.unusedVariables false
set_option maxRecDepth 100000

def SiRel9 (w : World) (n : Nat) (u : Value) (wr : World) : Prop := ∃ k : Nat, k ≤ n ∧ u = .int .i64 (k : Int) ∧ Below w.heap.size w wr
set_option maxHeartbeats 2000000 in
theorem same9 {w : World} {v1 v2 : Value} {xs : List Int} (h1 : RAt numTy w v1 xs) (h2 : RAt numTy w v2 xs) (hl : xs.length ≤ maxLen) :
    Calls Try.prog 17 #[v1, v2] w fun e w' => e = .returned (.bool true) ∧ Below w.heap.size w w' := by
  obtain ⟨a1, c1, rfl, hat1⟩ := nums_at h1
  obtain ⟨a2, c2, rfl, hat2⟩ := nums_at h2
  have HAt : Hid (∀ wx, Below w.heap.size w wx → ∀ k, k < xs.length → ∃ sb so sc sd, a1 = some ⟨sb, so, none⟩ ∧ a2 = some ⟨sc, sd, none⟩ ∧ wx.cell? ⟨sb, so + k, none⟩ = some (.int .i64 (xs.getD k 0)) ∧ wx.cell? ⟨sc, sd + k, none⟩ = some (.int .i64 (xs.getD k 0))) := hid (fun wx hb k hk => by
    obtain ⟨sb, so, e, hlt, hc⟩ := hat1 k hk
    obtain ⟨sc, sd, e', hlt', hc'⟩ := hat2 k hk
    exact ⟨sb, so, sc, sd, e, e', (hb.cell (p := ⟨sb, so + k, none⟩) hlt).trans hc, (hb.cell (p := ⟨sc, sd + k, none⟩) hlt').trans hc'⟩)
  unfold maxLen at hl
  clear hat1 hat2 h1 h2
  generalize xs.length = n at *
  go_enter Try.func17, Try.ntmps17
  go_wp2
  go_loopw [5] (SiRel9 w n) (fun i _ => n - (intOf i).toNat)
  case atStart => exact ⟨0, Nat.zero_le _, rfl, Below.refl _ _⟩
  case round =>
    obtain ⟨k, hk, rfl, hbw⟩ := hrel
    by_cases hkn : k < n
    · have hkI : (k : Int) < (n : Int) := by omega
      obtain ⟨sb, so, sc, sd, rfl, rfl, d1, d2⟩ := HAt.out _ hbw k hkn
      have HBw := hid (fun nq => below_drew hbw nq)
      clear hbw
      generalize xs.getD k 0 = x at *
      have q : (x != x) = false := bne_self_eq_false _
      go_wp2
      go_quiet (fail)
      all_goals
        go_wp2
        go_roundw
        case rel => exact ⟨k + 1, by omega, by go_num, HBw.out _⟩
        case measure => simp [intOf]; omega
    · obtain rfl : k = n := by omega
      have HBw := hid hbw
      clear hbw
      go_wp2
      go_ret
      exact ⟨rfl, HBw.out⟩
def pick9 (c n : Int) : Int := (if c < 0 then -(c + 1) else c) % n
theorem pick9_range (c n : Int) (hn : 0 < n) : 0 ≤ pick9 c n ∧ pick9 c n < n := ⟨Int.emod_nonneg _ (by omega), Int.emod_lt_of_pos _ hn⟩
theorem pick9_any (c n : Int) (w : World) (hn : 0 < n) (hn2 : n ≤ 1000000000) (h0 : -9223372036854775808 ≤ c) (h1 : c ≤ 9223372036854775807) :
    Calls Try.prog 27 #[.int .i64 c, .int .i64 n] w fun e w' => e = .returned (.int .i64 (pick9 c n)) ∧ w = w' := by
  unfold pick9
  by_cases h : c < 0
  · rw [if_pos h]
    have hc : 0 ≤ -(c + 1) := by omega
    have hc2 : -(c + 1) ≤ 9223372036854775807 := by omega
    go_enter Try.func27, Try.ntmps27
    go_wp2
    go_ret
    refine ⟨?_, rfl⟩
    show Ending.returned (.int .i64 _) = _
    congr 2
    first | rfl | (rw [← Int.tmod_eq_emod_of_nonneg hc]; simp [Int.neg_tmod])
  · rw [if_neg h]
    have hc : 0 ≤ c := by omega
    go_enter Try.func27, Try.ntmps27
    go_wp2
    go_ret
    exact ⟨by first | rfl | (congr 2; exact Int.tmod_eq_emod_of_nonneg hc), rfl⟩

section
variable {W : World} {v u : Value} {l m : List Int}
abbrev KB (W : World) (b : Bool) (e : Ending) (w' : World) : Prop := e = .returned (.bool b) ∧ Below W.heap.size W w'
abbrev KI (W : World) (n : Int) (e : Ending) (w' : World) : Prop := e = .returned (.int .i64 n) ∧ Below W.heap.size W w'
/-- A row is answered. -/
abbrev KL (W : World) (L : List Int) (e : Ending) (w' : World) : Prop := ∃ a n c, e = .returned (.slice a n c) ∧ n = L.length ∧ Hid (RAt numTy w' (.slice a n c) L) ∧ Below W.heap.size W w'
/-- A row is answered; another one lies there still. -/
abbrev KL2 (W : World) (L : List Int) (u : Value) (M : List Int) (e : Ending) (w' : World) : Prop := ∃ a n c, e = .returned (.slice a n c) ∧ n = L.length ∧ Hid (RAt numTy w' (.slice a n c) L ∧ RAt numTy w' u M) ∧ Below W.heap.size W w'
theorem k_right (HP : CfProg) (h : NumIn W v l) : ∀ wx, Below W.heap.size W wx → Calls Try.prog 11 #[v] wx (KB W (rightC l)) := fun wx hb => (HP.right (h.below hb)).mono fun e w' ⟨he, k⟩ => ⟨he, hb.trans (k.mono hb.size)⟩
theorem k_next (HP : CfProg) (h : NumIn W v l) (g : NumIn W u m) : ∀ wx, Below W.heap.size W wx → Calls Try.prog 13 #[v, u] wx (KB W (nextC l m)) := fun wx hb => (HP.next (h.below hb) (g.below hb)).mono fun e w' ⟨he, k⟩ => ⟨he, hb.trans (k.mono hb.size)⟩
theorem k_has (HP : CfProg) (h : NumIn W v l) (x : Int) (hx : I64c x) : ∀ wx, Below W.heap.size W wx → Calls Try.prog 15 #[v, .int .i64 x] wx (KB W (hasC l x)) := fun wx hb => (HP.has x (h.below hb) hx).mono fun e w' ⟨he, k⟩ => ⟨he, hb.trans (k.mono hb.size)⟩
theorem k_most (HP : CfProg) (h : NumIn W v l) (g : NumIn W u m) : ∀ wx, Below W.heap.size W wx → Calls Try.prog 22 #[v, u] wx (KB W (mostC l m)) := fun wx hb => (HP.most (h.below hb) (g.below hb)).mono fun e w' ⟨he, k⟩ => ⟨he, hb.trans (k.mono hb.size)⟩
theorem k_agreed (HP : CfProg) (h : NumIn W v l) : ∀ wx, Below W.heap.size W wx → Calls Try.prog 24 #[v] wx (KI W (agreedC l)) := fun wx hb => (HP.agreed (h.below hb)).mono fun e w' ⟨he, k⟩ => ⟨he, hb.trans (k.mono hb.size)⟩
theorem kl_of {wx : World} {L : List Int} {f : FuncId} {args : Array Value} (hb : Below W.heap.size W wx) (h : Calls Try.prog f args wx (NumPost wx L)) : Calls Try.prog f args wx (KL W L) := h.mono fun e w' ⟨a, n, c, he, hn, hr, k⟩ => ⟨a, n, c, he, hn, hid hr, hb.trans (k.mono hb.size)⟩
theorem kl2_of {wx : World} {L M : List Int} {f : FuncId} {args : Array Value} (hb : Below W.heap.size W wx) (hu : RAt numTy wx u M) (h : Calls Try.prog f args wx (NumPost wx L)) : Calls Try.prog f args wx (KL2 W L u M) := h.mono fun e w' ⟨a, n, c, he, hn, hr, k⟩ => ⟨a, n, c, he, hn, hid ⟨hr, hu.below k⟩, hb.trans (k.mono hb.size)⟩
theorem k_with (HP : CfProg) (h : NumIn W v l) (x : Int) (hx : I64c x) : ∀ wx, Below W.heap.size W wx → Calls Try.prog 18 #[v, .int .i64 x] wx (KL W (withC l x)) := fun wx hb => kl_of hb (HP.with_ x (h.below hb) hx)
theorem k_without (HP : CfProg) (h : NumIn W v l) (x : Int) (hx : I64c x) : ∀ wx, Below W.heap.size W wx → Calls Try.prog 20 #[v, .int .i64 x] wx (KL W (withoutC l x)) := fun wx hb => kl_of hb (HP.without x (h.below hb) hx)
theorem d_right (h : NumIn W v l) : ∀ wx, Below W.heap.size W wx → Calls Try.prog 12 #[v] wx (KB W (rightC l)) := fun wx hb => (refRight_any (h.below hb).row (by have := h.len; omega)).mono fun e w' ⟨he, k⟩ => ⟨he, hb.trans (k.mono hb.size)⟩
theorem d_next (h : NumIn W v l) (g : NumIn W u m) : ∀ wx, Below W.heap.size W wx → Calls Try.prog 14 #[v, u] wx (KB W (nextC l m)) := fun wx hb => (refNext_any (h.below hb).row (g.below hb).row (by have := h.len; omega) (by have := g.len; omega)).mono fun e w' ⟨he, k⟩ => ⟨he, hb.trans (k.mono hb.size)⟩
theorem d_has (h : NumIn W v l) (x : Int) : ∀ wx, Below W.heap.size W wx → Calls Try.prog 16 #[v, .int .i64 x] wx (KB W (hasC l x)) := fun wx hb => (refHas_any x (h.below hb).row (by have := h.len; omega)).mono fun e w' ⟨he, k⟩ => ⟨he, by rw [k]; exact hb⟩
theorem d_most (h : NumIn W v l) (g : NumIn W u m) : ∀ wx, Below W.heap.size W wx → Calls Try.prog 23 #[v, u] wx (KB W (mostC l m)) := fun wx hb => (refMost_any (h.below hb).row (g.below hb).row (by have := h.len; omega) (by have := g.len; omega)).mono fun e w' ⟨he, k⟩ => ⟨he, hb.trans (k.mono hb.size)⟩
theorem d_agreed (h : NumIn W v l) : ∀ wx, Below W.heap.size W wx → Calls Try.prog 25 #[v] wx (KI W (agreedC l)) := fun wx hb => (refAgreed_any (h.below hb).row (by have := h.len; omega)).mono fun e w' ⟨he, k⟩ => ⟨he, hb.trans (k.mono hb.size)⟩
theorem d_with (h : NumIn W v l) (x : Int) : ∀ wx u M, RAt numTy wx u M → Below W.heap.size W wx → Calls Try.prog 19 #[v, .int .i64 x] wx (KL2 W (withC l x) u M) := fun wx u M hu hb => kl2_of hb hu (refWith_any x (h.below hb).row (by have := h.len; omega))
theorem d_without (h : NumIn W v l) (x : Int) : ∀ wx u M, RAt numTy wx u M → Below W.heap.size W wx → Calls Try.prog 21 #[v, .int .i64 x] wx (KL2 W (withoutC l x) u M) := fun wx u M hu hb => kl2_of hb hu (refWithout_any x (h.below hb).row (by have := h.len; omega))
theorem k_same {wx : World} {v1 v2 : Value} {xs : List Int} (hb : Below W.heap.size W wx) (h1 : RAt numTy wx v1 xs) (h2 : RAt numTy wx v2 xs) (hl : xs.length ≤ 2000) : Calls Try.prog 17 #[v1, v2] wx (KB W true) := (same9 h1 h2 (by unfold maxLen; omega)).mono fun e w' ⟨he, k⟩ => ⟨he, hb.trans (k.mono hb.size)⟩
end
end Go.Proofs.Ytcjhiegiccekpaa
