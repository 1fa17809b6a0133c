/-
  LAYER 6 (net), THE DOCUMENT's ANSWER: Late, Take.
-/
import Derived.Test.YtclkhkoappjgdaaNtRef2
namespace Go.Proofs.Ytclkhkoappjgdaa
open Go.RowKit
set_option linter.unusedVariables false
set_option maxRecDepth 100000

/-- Behind out, in Late: the letter's box stands. -/
structure LateMid (w W : World) (r : Nat) (lv lv' gv : Value) (s s' : Nt) (x : Lt) : Prop where
  turn : RTurn w W r lv lv' gv s'
  few : s'.L.length ≤ 299
  box : own W w.heap.size #[.int .i64 x.fr, .int .i64 x.to_, .string x.dt] 36
section
variable {w : World} {r : Nat} {lv gv : Value} {s : Nt}
theorem rLate_no (h : RNet w r lv gv s) {k : Int} (hk : k < 0 ∨ (s.L.length : Int) ≤ k) :
    Calls Try.prog 32 #[.pointer (some ⟨r, 0, none⟩), .int .i64 k] w fun e w' => e = .returned (.bool false) ∧ w = w' := by
  have H := hid (rIs_no h hk)
  clear h hk
  go_enter Try.func32, Try.ntmps32
  go_wp2_with (go_at_call 38; (with_reducible refine H.out.mono ?_); rintro e w1 ⟨rfl, rfl⟩)
  go_ret
  exact ⟨rfl, rfl⟩
set_option maxHeartbeats 16000000 in
theorem rLate_yes (h : RNet w r lv gv s) (hl : s.L.length ≤ 300) {k : Nat} (hk : k < s.L.length) {x : Lt} (hx : s.L[k] = x) :
    Calls Try.prog 32 #[.pointer (some ⟨r, 0, none⟩), .int .i64 (k : Int)] w fun e w' => e = .returned (.bool true) ∧ ∃ lv', RTurn w w' r lv lv' gv { s with L := outL s.L k ++ [x] } := by
  have H := hid (rIs_yes h hk)
  have hb0 : Below w.heap.size w (w.alloc (rl1 x)) := (Below.refl _ _).alloc (Nat.le_refl _) _
  have HO := hid (rOut_any (h.below hb0) k hk)
  have obx := own.new w #[.int .i64 x.fr, .int .i64 x.to_, .string x.dt] 36
  have hr := h.head.lt
  have HL : Hid (∀ w2 lv2, RTurn (w.alloc (rl1 x)) w2 r lv lv2 gv (s.out k) → LateMid w w2 r lv lv2 gv s (s.out k) x) := hid (fun w2 lv2 ht =>
    ⟨(RTurn.of_below h hb0).trans ht, by show (outL s.L k).length ≤ 299; rw [outL_len hk]; omega, own.chg (S := fun b => b = r) obx ht.chg (fun e => by omega)⟩)
  obtain ⟨sb, so, cap, hlv, _, c1, c2, c3⟩ := h.letter hk hx
  have c0 : w.cell? ⟨r, 0, none⟩ = some (.slice (some ⟨sb, so, none⟩) s.L.length cap) := by rw [← hlv]; exact (h.head.cell 0).trans rfl
  have hkI : (k : Int) < (s.L.length : Int) := by omega
  have HV := hid hlv
  clear h hx obx hb0 hlv
  go_enter Try.func32, Try.ntmps32
  go_wp2_with (first
    | (go_at_call 38; (with_reducible refine H.out.mono ?_); rintro e w1 ⟨rfl, rfl⟩)
    | (go_at_call 28; (with_reducible refine HO.out.mono ?_); rintro e W ⟨rfl, lv', ht⟩; have HMM := hid (HL.out _ _ ht); clear ht))
  have hM := HMM.out
  obtain ⟨s', hs'⟩ : ∃ s', s.out k = s' := ⟨_, rfl⟩
  have HS := hid hs'
  rw [hs'] at hM
  clear HMM HL HO c1 c2 c3
  have h' := hM.turn.is
  clear c0
  obtain ⟨⟨aA, bA, wA, aA2, bA2, wA2, PA⟩, ⟨aB, bB, wB, aB2, bB2, wB2, PB⟩, ⟨aC, bC, wC, aC2, bC2, wC2, PC⟩⟩ := put_runs h' (by have := hM.few; omega) x
  have HF : Hid (∀ w' l2, RTurn W w' r lv' l2 gv { s' with L := s'.L ++ [x] } → RTurn w w' r lv l2 gv { s with L := outL s.L k ++ [x] }) := hid (fun w' l2 ht => by subst hs'; exact hM.turn.trans ht)
  have hr' := h'.head.lt
  have hwr := hM.box.lt
  have hbx := hM.box
  obtain ⟨ao', cap', hv', _⟩ := h'.row.at rlTy_ok
  subst hv'
  have hcs : ∀ wx, Below W.heap.size W wx → wx.cell? ⟨r, 0, none⟩ = some (.slice ao' s'.L.length cap') ∧ wx.cell? ⟨w.heap.size, 0, none⟩ = some (.int .i64 x.fr) ∧ wx.cell? ⟨w.heap.size, 1, none⟩ = some (.int .i64 x.to_) ∧ wx.cell? ⟨w.heap.size, 2, none⟩ = some (.string x.dt) ∧ wx.frozen? ⟨r, 0, none⟩ = false := fun wx hb =>
    ⟨(hb.cell (p := ⟨r, 0, none⟩) hr').trans ((h'.head.cell 0).trans rfl), (hb.cell (p := ⟨w.heap.size, 0, none⟩) hwr).trans ((hbx.cell 0).trans rfl), (hb.cell (p := ⟨w.heap.size, 1, none⟩) hwr).trans ((hbx.cell 1).trans rfl), (hb.cell (p := ⟨w.heap.size, 2, none⟩) hwr).trans ((hbx.cell 2).trans rfl), (hb.frozen (p := ⟨r, 0, none⟩) hr').trans (h'.head.frozen 0)⟩
  have B0 : Below W.heap.size W (W.alloc rl0) := Below.alloc (Below.refl _ _) (Nat.le_refl _) _
  have B1 : Below W.heap.size W (W.alloc (rl1 x)) := Below.alloc (Below.refl _ _) (Nat.le_refl _) _
  have BC : Below W.heap.size W (wC.alloc (rl1 x)) := PC.b1w.alloc PC.b1w.size _
  obtain ⟨c1, d0, d1, d2, g0⟩ := hcs _ (Below.refl _ W)
  obtain ⟨c2, d3, d4, d5, g1⟩ := hcs _ B0
  obtain ⟨c3, d6, d7, d8, g2⟩ := hcs _ B1
  obtain ⟨c4, d9, d10, d11, g3⟩ := hcs _ PA.b1w
  obtain ⟨c5, d12, d13, d14, g4⟩ := hcs _ PB.b1w
  obtain ⟨c6, d15, d16, d17, g5⟩ := hcs _ PC.b1w
  obtain ⟨c7, d18, d19, d20, g6⟩ := hcs _ BC
  obtain ⟨c8, d21, d22, d23, g7⟩ := hcs _ PA.b2w
  obtain ⟨c9, d24, d25, d26, g8⟩ := hcs _ PB.b2w
  obtain ⟨c10, d27, d28, d29, g9⟩ := hcs _ PC.b2w
  have eA := hid PA.e1
  have fA := hid PA.e2
  have eB := hid PB.e1
  have fB := hid PB.e2
  have eC := hid PC.e1
  have fC := hid PC.e2
  simp only [if_true, if_false, Bool.false_eq_true] at fA fB fC
  have TA := hid PA.fin
  have TB := hid PB.fin
  have TC := hid PC.fin
  clear PA PB PC hcs B0 B1 BC h' hbx hM hs'
  generalize { s' with L := s'.L ++ [x] } = s2 at *
  go_region_law (first
    | (refine step_append_at eA.out (by with_reducible rfl) rfl _ _ rfl rfl rfl rfl ?_)
    | (refine step_append_at fA.out (by with_reducible rfl) rfl _ _ rfl rfl rfl rfl ?_)
    | (refine step_append_at eB.out (by with_reducible rfl) rfl _ _ rfl rfl rfl rfl ?_)
    | (refine step_append_at fB.out (by with_reducible rfl) rfl _ _ rfl rfl rfl rfl ?_)
    | (refine step_append_at eC.out (by with_reducible rfl) rfl _ _ rfl rfl rfl rfl ?_)
    | (refine step_append_at fC.out (by with_reducible rfl) rfl _ _ rfl rfl rfl rfl ?_))
  all_goals
    go_wp2
    go_ret
    first
      | exact ⟨rfl, _, HF.out _ _ TA.out⟩
      | exact ⟨rfl, _, HF.out _ _ TB.out⟩
      | exact ⟨rfl, _, HF.out _ _ TC.out⟩
theorem rTake_no (h : RNet w r lv gv s) {k : Int} (hk : k < 0 ∨ (s.L.length : Int) ≤ k) :
    Calls Try.prog 29 #[.pointer (some ⟨r, 0, none⟩), .int .i64 k] w fun e w' => e = .returned (.tuple #[.agg #[.int .i64 0, .int .i64 0, .string ⟨#[]⟩], .bool false]) ∧ Below w.heap.size w w' := by
  have hb0 : Below w.heap.size w (w.alloc (.cells #[.int .i64 0, .int .i64 0, .string ⟨#[]⟩] 36)) := (Below.refl _ _).alloc (Nat.le_refl _) _
  have H := hid (rIs_no (h.below hb0) hk)
  clear h hk
  go_enter Try.func29, Try.ntmps29
  go_wp2_with (go_at_call 38; (with_reducible refine H.out.mono ?_); rintro e w1 ⟨rfl, rfl⟩)
  exact bodyPost_ret (v := .tuple #[.agg #[.int .i64 0, .int .i64 0, .string ⟨#[]⟩], .bool false]) (by simp [results, Try.results29, go_sem]) rfl ⟨rfl, hb0⟩
end
end Go.Proofs.Ytclkhkoappjgdaa
