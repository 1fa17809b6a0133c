import Derived.Test.YtbccikefccdekaaGreatDoorSnThAJ
import Derived.Test.YtbccikefccdekaaGreatDoorSnThBJ
import Derived.Test.YtbccikefccdekaaGreatDoorSnThCJ
import Derived.Test.YtbccikefccdekaaGreatDoorSnThDJ
/-
  LAYER 4 (snap), THE PROGRAM: toHead. (Written by tools/gen4_th.py.)
-/
namespace Go.Proofs.YtbccikefccdekaaGreatDoor
open Go.RowKit
set_option linter.unusedVariables false
set_option maxRecDepth 100000

set_option maxHeartbeats 8000000 in
theorem toHead_any (s : ByteArray) (w : World) (hs : s.size ≤ 1000000) : Calls Tryz.prog 30 #[.string s] w (HdPost w s.data.toList) := by
  obtain ⟨S, hS⟩ : ∃ S, s.data.toList = S := ⟨_, rfl⟩
  obtain ⟨W0, hW0⟩ : ∃ W0, w.alloc (.cells zbox 24) = W0 := ⟨_, rfl⟩
  have hb0 : Below w.heap.size w W0 := by rw [← hW0]; exact (Below.refl _ _).alloc (Nat.le_refl _) _
  have o0 : own W0 w.heap.size zbox 24 := by rw [← hW0]; exact own.new w _ _
  have HN := hid (snNumbers_any s W0 hs)
  rw [hS] at HN ⊢
  dsimp only [zbox] at hW0 o0
  -- the answer where it is none
  have HZ : Hid (∀ w1, Below W0.heap.size W0 w1 → QBox w1 w.heap.size (.int .i64 0) (.int .i64 0) (.slice none 0 0) (.string ⟨#[]⟩) (.int .i64 0) (.int .i64 0) (.slice none 0 0) (.string ⟨#[]⟩) ∧ Below w.heap.size w (qst4 w1 w.heap.size (.int .i64 0) (.int .i64 0) (.slice none 0 0) (.string ⟨#[]⟩))) := hid (fun w1 h1 => by
    have o1 := o0.same (h1.block _ o0.lt)
    exact ⟨qbox_of o1 _ _ _ _, qst4_below (hb0.trans (h1.mono hb0.size)) (Nat.le_refl _) _ _ _ _⟩)
  have HBad : Hid (∀ w', Below w.heap.size w w' → (match nums S with | none => False | some l => headOk l = true) → False → True) := hid (fun _ _ _ _ => trivial)
  have hend : ∀ w', Below w.heap.size w w' → (∀ l, nums S = some l → headOk l = false) → HdPost w S (.returned (.tuple #[.agg #[.int .i64 0, .int .i64 0, .slice none 0 0, .string ⟨#[]⟩], .int .i64 0, .bool false])) w' := fun w' hb h => by
    refine ⟨bs0, none, 0, 0, 0, false, rfl, hb, ?_⟩
    cases hn : nums S with
    | none => rfl
    | some l => exact ⟨(h l hn).symm, fun e => by cases e⟩
  cases hn : nums S with
  | none =>
    have HN1 : Hid (Calls Tryz.prog 53 #[.string s] W0 fun e w' => e = .returned (.tuple #[.slice none 0 0, .bool false]) ∧ Below W0.heap.size W0 w') := hid (HN.out.mono fun e w' h => by
      rcases h with ⟨_, h1, h2⟩ | ⟨l, _, _, h1, _⟩
      · exact ⟨h1, h2⟩
      · rw [hn] at h1; cases h1)
    have HE := hid (fun w' (hb : Below w.heap.size w w') => hend w' hb (fun l hl => by rw [hn] at hl; cases hl))
    have hwr : IntKind.i64.wrap (0 - 1) = -1 := by decide
    clear HN hend hn HBad
    go_enter Tryz.func30, Tryz.ntmps30
    go_wp2_with (go_at_call 53; (with_reducible refine HN1.out.mono ?_); rintro e w1 ⟨rfl, hb1⟩; obtain ⟨⟨m0, m1, m2, m3, f0, f1, f2, f3, e0, e1, e2, e3⟩, hfb⟩ := HZ.out _ hb1)
    exact bodyPost_ret (v := .tuple #[.agg #[.int .i64 0, .int .i64 0, .slice none 0 0, .string ⟨#[]⟩], .int .i64 0, .bool false]) (by simp [results, Tryz.results30, go_sem, e0, e1, e2, e3]) rfl (HE.out _ hfb)
  | some l =>
    obtain ⟨hen, h64⟩ := nums_sound hn
    have hll : l.length ≤ 1000000 := by
      have := encs_ge l
      rw [hen, ← hS, str_len] at this
      omega
    have HN1 : Hid (Calls Tryz.prog 53 #[.string s] W0 fun e w' => ∃ a cap, e = .returned (.tuple #[.slice a l.length cap, .bool true]) ∧ Gr.RMid Gr.numTy W0 w' (.slice a l.length cap) l) := hid (HN.out.mono fun e w' h => by
      rcases h with ⟨h0, _, _⟩ | ⟨l', a, cap, h1, h2, h3⟩
      · rw [hn] at h0; cases h0
      · rw [hn] at h1; cases h1; exact ⟨a, cap, h2, h3⟩)
    have hwr : IntKind.i64.wrap ((l.length : Int) - 1) = (l.length : Int) - 1 := by rw [IntKind.wrap_i64]; omega
    have hwr4 : IntKind.i64.wrap ((l.length : Int) - 4) = (l.length : Int) - 4 := by rw [IntKind.wrap_i64]; omega
    by_cases h4 : l.length < 4
    · have HE := hid (fun w' (hb : Below w.heap.size w w') => hend w' hb (fun l' hl => by rw [hn] at hl; cases hl; exact headOk_bad (.inl h4)))
      have d4 : decide ((l.length : Int) < 4) = true := decide_eq_true (by omega)
      clear HN hend hn HBad hen h64 hwr4 h4 hll
      generalize l.length = n at *
      go_enter Tryz.func30, Tryz.ntmps30
      go_wp2_with (go_at_call 53; (with_reducible refine HN1.out.mono ?_); rintro e w1 ⟨a, cap, rfl, hm1⟩; obtain ⟨⟨m0, m1, m2, m3, f0, f1, f2, f3, e0, e1, e2, e3⟩, hfb⟩ := HZ.out _ hm1.below; clear hm1)
      exact bodyPost_ret (v := .tuple #[.agg #[.int .i64 0, .int .i64 0, .slice none 0 0, .string ⟨#[]⟩], .int .i64 0, .bool false]) (by simp [results, Tryz.results30, go_sem, e0, e1, e2, e3]) rfl (HE.out _ hfb)
    · have d4 : decide ((l.length : Int) < 4) = false := decide_eq_false (by omega)
      have hI4 : ¬ (l.length : Int) < 4 := by omega
      have HAt : Hid (∀ w1 a cap, Gr.RMid Gr.numTy W0 w1 (.slice a l.length cap) l → ∃ sb so, a = some ⟨sb, so, none⟩ ∧ sb < w1.heap.size ∧ ∀ wx, Below w1.heap.size w1 wx → ∀ k, k < l.length → wx.cell? ⟨sb, so + k, none⟩ = some (.int .i64 (l.getD k 0))) := hid (fun w1 a cap hm => by
        obtain ⟨a', cap', e, hc⟩ := Gr.nums_at hm.row.rAt
        cases e
        obtain ⟨sb, so, rfl, hlt, _⟩ := hc 0 (by omega)
        refine ⟨sb, so, rfl, hlt, fun wx hb k hk => ?_⟩
        obtain ⟨sb', so', e2, _, h2⟩ := hc k hk
        cases e2
        exact (hb.cell (p := ⟨sb, so + k, none⟩) hlt).trans h2)
      by_cases h2 : l.getD 2 0 = (l.length : Int) - 4
      · have hn0 : nums s.data.toList = some l := by rw [hS]; exact hn
        rw [← hS]
        cases hr : rightS ⟨l.getD 0 0, l.getD 1 0, (l.take (l.length - 1)).drop 3, []⟩ with
        | false => exact toHead_A s w hs l hn0 h4 h2 hr
        | true =>
          by_cases hp : (0 : Int) ≤ l.getD (l.length - 1) 0
          · by_cases hp1 : l.getD (l.length - 1) 0 ≤ (4000000 : Int)
            · exact toHead_D s w hs l hn0 h4 h2 hr hp hp1
            · exact toHead_C s w hs l hn0 h4 h2 hr hp hp1
          · exact toHead_B s w hs l hn0 h4 h2 hr hp
      · have HE := hid (fun w' (hb : Below w.heap.size w w') => hend w' hb (fun l' hl => by rw [hn] at hl; cases hl; exact headOk_bad (.inr h2)))
        have hq : (l.getD 2 0 == (l.length : Int) - 4) = false := beq_eq_false_iff_ne.2 h2
        have hlt2 : (2 : Int) < (l.length : Int) := by omega
        have HA2 : Hid (∀ w1 a cap, Gr.RMid Gr.numTy W0 w1 (.slice a l.length cap) l → ∃ sb so, a = some ⟨sb, so, none⟩ ∧ w1.cell? ⟨sb, so + 2, none⟩ = some (.int .i64 (l.getD 2 0))) := hid (fun w1 a cap hm => by
          obtain ⟨sb, so, e, _, hc⟩ := HAt.out w1 a cap hm
          exact ⟨sb, so, e, hc w1 (Below.refl _ _) 2 (by omega)⟩)
        clear HN hend hn HBad hen h64 h4 hll HAt h2
        generalize l.getD 2 0 = x2 at *
        generalize l.length = n at *
        go_enter Tryz.func30, Tryz.ntmps30
        go_wp2_with (go_at_call 53; (with_reducible refine HN1.out.mono ?_); rintro e w1 ⟨a, cap, rfl, hm1⟩; obtain ⟨⟨m0, m1, m2, m3, f0, f1, f2, f3, e0, e1, e2, e3⟩, hfb⟩ := HZ.out _ hm1.below; obtain ⟨sb, so, rfl, c2⟩ := HA2.out _ _ _ hm1; clear hm1)
        exact bodyPost_ret (v := .tuple #[.agg #[.int .i64 0, .int .i64 0, .slice none 0 0, .string ⟨#[]⟩], .int .i64 0, .bool false]) (by simp [results, Tryz.results30, go_sem, e0, e1, e2, e3]) rfl (HE.out _ hfb)
end Go.Proofs.YtbccikefccdekaaGreatDoor

