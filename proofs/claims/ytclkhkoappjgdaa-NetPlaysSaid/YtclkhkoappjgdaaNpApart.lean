/-
  LAYER 6 (net), THE PROGRAM: Apart.
-/
import Derived.Test.YtclkhkoappjgdaaNpNet
namespace Go.Proofs.Ytclkhkoappjgdaa
open Go.RowKit Go.Maps
set_option linter.unusedVariables false
set_option maxRecDepth 100000

section
variable {w : World} {T : Nat → Prop} {r : Nat} {lv fv : Value} {s : Nt}
set_option maxHeartbeats 2000000 in
theorem pApart_any (h : PNet w T r lv fv s) {a b : Int} (ha : I64' a) (hb : I64' b) :
    Calls Try.prog 19 #[.pointer (some ⟨r, 0, none⟩), .int .i64 a, .int .i64 b] w fun e w' => e = .returned (.bool (s.apart a b)) ∧ Below w.heap.size w w' := by
  have hr := h.head.lt
  have c0 : w.cell? ⟨r, 2, none⟩ = some fv := (h.head.cell 2).trans rfl
  have c1 : w.drew.cell? ⟨r, 2, none⟩ = some fv := c0
  rcases h.grp with ⟨rfl, hG⟩ | ⟨c, m, k, D, rfl, h1, h2, h3, _, _⟩
  · have e : s.apart a b = false := by unfold Nt.apart; rw [hG]; simp
    rw [e]
    have hq : ∀ wx, Sem.run Try.prog (binOp .neq 54 .nilFunc .nilFunc) wx = .ok (.bool false) wx := fun wx => by rfl
    clear h e hG
    go_enter Try.func19, Try.ntmps19
    go_wp2_with (fail)
    go_quiet (fail)
    all_goals
      go_wp2
      go_ret
      exact ⟨rfl, below_drew (Below.refl _ _) _⟩
  · have HA : Hid (∀ wx, Below w.heap.size w wx → ∀ n, I64' n → Calls Try.prog 39 #[.int .i64 n, .pointer (some ⟨c, 0, none⟩)] wx fun e w' => e = .returned (.bool (decide (n ∈ s.G))) ∧ Below w.heap.size w w') := hid (fun wx hw n hn => (inside_any (h1.same (hw.block _ h1.lt)) (ownsMap_same h2 (hw.block _ (isMap_lt h2))) h3 hn).mono (fun e w' ⟨e1, e2⟩ => ⟨e1, hw.trans (e2.mono hw.size)⟩))
    unfold Nt.apart
    have hC : Hid (∀ wx, Below w.heap.size w wx → wx.cell? ⟨r, 2, none⟩ = some (.func (.func 39) #[] #[.pointer (some ⟨c, 0, none⟩)])) := hid (fun wx hw => (hw.cell (p := ⟨r, 2, none⟩) hr).trans c0)
    have HAa := hid (fun wx hw => HA.out wx hw a ha)
    have HAb := hid (fun wx hw => HA.out wx hw b hb)
    have hq : ∀ wx, Sem.run Try.prog (binOp .neq 54 (.func (.func 39) #[] #[.pointer (some ⟨c, 0, none⟩)]) .nilFunc) wx = .ok (.bool true) wx := fun wx => by rfl
    clear HA h1 h2 h3 h c0 c1
    generalize decide (a ∈ s.G) = x at *
    generalize decide (b ∈ s.G) = y at *
    go_enter Try.func19, Try.ntmps19
    go_wp2_with (fail)
    go_region_held3 (fun wx => wx.cell? ⟨r, 2, none⟩ = some (.func (.func 39) #[] #[.pointer (some ⟨c, 0, none⟩)]) ∧ Below w.heap.size w wx)
      (first | (with_reducible exact ⟨hC.out _ (Below.drew (Below.refl _ _)), Below.drew (Below.refl _ _)⟩) | (with_reducible exact ⟨hC.out _ hb3, hb3⟩) | (with_reducible assumption))
      (first
        | (go_at_call 39; (with_reducible refine (HAa.out _ (And.right (by assumption))).mono ?_); rintro e w2 ⟨rfl, hb3⟩)
        | (go_at_call 39; (with_reducible refine (HAb.out _ (And.right (by assumption))).mono ?_); rintro e w2 ⟨rfl, hb3⟩))
    all_goals
      go_wp2
      go_ret
      exact ⟨by cases x <;> cases y <;> rfl, hb3⟩
end
end Go.Proofs.Ytclkhkoappjgdaa
