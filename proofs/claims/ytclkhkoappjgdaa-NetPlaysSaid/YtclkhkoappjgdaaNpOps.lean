/-
  LAYER 6 (net), THE PROGRAM: Send, Twice, Late.
-/
import Derived.Test.YtclkhkoappjgdaaNpAdd
import Derived.Test.YtclkhkoappjgdaaNtModel
namespace Go.Proofs.Ytclkhkoappjgdaa
open Go.RowKit Go.Maps
set_option linter.unusedVariables false
set_option maxRecDepth 100000

section
variable {w : World} {T : Nat → Prop} {r : Nat} {lv fv : Value} {s : Nt}
theorem pSend_any (h : PNet w T r lv fv s) (hlo : s.lost < 100000) (a b : Int) (d : ByteArray) (hx : I64' a ∧ I64' b) :
    Calls Try.prog 12 #[.pointer (some ⟨r, 0, none⟩), .int .i64 a, .int .i64 b, .string d] w (AddPost w T r lv fv s ⟨a, b, d⟩) := by
  have H := hid (pAdd_any h hlo ⟨a, b, d⟩ hx)
  clear h hx
  go_enter Try.func12, Try.ntmps12
  go_wp2_with (go_at_call 27; (with_reducible refine H.out.mono ?_); rintro e w2 ⟨rfl, ht⟩)
  go_end0
  exact ⟨rfl, ht⟩
def AddFrom (w : World) (T : Nat → Prop) (r : Nat) (lv fv : Value) (s' : Nt) (e : Ending) (w' : World) : Prop :=
  e = .returned (.tuple #[]) ∧ ∃ lv', PTurn w w' T r lv lv' fv s'
/-- What a call that answers a bool leaves. -/
def BoolPost (w : World) (T : Nat → Prop) (r : Nat) (lv fv : Value) (q : Nt × Bool) (e : Ending) (w' : World) : Prop :=
  e = .returned (.bool q.2) ∧ ∃ lv', PTurn w w' T r lv lv' fv q.1
theorem pTwice_no (h : PNet w T r lv fv s) {k : Int} (hk : k < 0 ∨ (s.L.length : Int) ≤ k) :
    Calls Try.prog 25 #[.pointer (some ⟨r, 0, none⟩), .int .i64 k] w fun e w' => e = .returned (.bool false) ∧ Below w.heap.size w w' := by
  have H := hid (pLook_no h hk)
  clear h hk
  go_enter Try.func25, Try.ntmps25
  go_wp2_with (go_at_call 36; (with_reducible refine H.out.mono ?_); rintro e w1 ⟨rfl, hb⟩)
  go_ret
  exact ⟨rfl, hb.alloc hb.size _⟩
theorem pLate_no (h : PNet w T r lv fv s) {k : Int} (hk : k < 0 ∨ (s.L.length : Int) ≤ k) :
    Calls Try.prog 24 #[.pointer (some ⟨r, 0, none⟩), .int .i64 k] w fun e w' => e = .returned (.bool false) ∧ Below w.heap.size w w' := by
  have H := hid (pPull_no h hk)
  clear h hk
  go_enter Try.func24, Try.ntmps24
  go_wp2_with (go_at_call 37; (with_reducible refine H.out.mono ?_); rintro e w1 ⟨rfl, hb⟩)
  go_ret
  exact ⟨rfl, hb.alloc hb.size _⟩
theorem pTwice_yes (h : PNet w T r lv fv s) {k : Nat} (hk : k < s.L.length) {x : Lt} (hx : s.L[k] = x) (hlo : s.lost < 100000) :
    Calls Try.prog 25 #[.pointer (some ⟨r, 0, none⟩), .int .i64 (k : Int)] w (BoolPost w T r lv fv (s.send x, true)) := by
  have H := hid (pLook_yes h hk hx)
  have hsane := h.sane x (by rw [← hx]; exact List.getElem_mem hk)
  have HA : Hid (∀ w1, Below w.heap.size w w1 → Hid (Calls Try.prog 27 #[.pointer (some ⟨r, 0, none⟩), .agg #[.int .i64 x.fr, .int .i64 x.to_, .string x.dt]] (w1.alloc (pl1 x)) (AddFrom w T r lv fv (s.send x)))) := hid (fun w1 hb => by
    have hbA := hb.alloc hb.size (pl1 x)
    exact hid ((pAdd_any (h.below hbA) hlo x hsane).mono (fun e w2 ⟨he, lv', ht⟩ => ⟨he, lv', (PTurn.of_below h hbA).trans ht⟩)))
  unfold pl1 at *
  clear h hx hk
  go_enter Try.func25, Try.ntmps25
  go_wp2_with (first
    | (go_at_call 36; (with_reducible refine H.out.mono ?_); rintro e w1 ⟨rfl, hb⟩; have HA1 := HA.out _ hb)
    | (go_at_call 27; (with_reducible refine HA1.out.mono ?_); rintro e w2 ⟨rfl, ht⟩))
  go_ret
  exact ⟨rfl, ht⟩
theorem late_send {s : Nt} (hl : s.L.length ≤ 300) {k : Nat} (hk : k < s.L.length) (x : Lt) : (s.out k).send x = { s with L := outL s.L k ++ [x] } := by
  unfold Nt.send
  rw [if_neg (by show ¬ 300 ≤ (outL s.L k).length; rw [outL_len hk]; omega)]
  rfl
theorem pLate_yes (h : PNet w T r lv fv s) {k : Nat} (hk : k < s.L.length) {x : Lt} (hx : s.L[k] = x) (hlo : s.lost < 100000) :
    Calls Try.prog 24 #[.pointer (some ⟨r, 0, none⟩), .int .i64 (k : Int)] w (BoolPost w T r lv fv ({ s with L := outL s.L k ++ [x] }, true)) := by
  have H := hid (pPull_yes h hk hx)
  have hsane := h.sane x (by rw [← hx]; exact List.getElem_mem hk)
  have hse := late_send h.ll hk x
  have HA : Hid (∀ w1 lv1, PTurn w w1 T r lv lv1 fv (s.out k) → Hid (Calls Try.prog 27 #[.pointer (some ⟨r, 0, none⟩), .agg #[.int .i64 x.fr, .int .i64 x.to_, .string x.dt]] (w1.alloc (pl1 x)) (AddFrom w T r lv fv { s with L := outL s.L k ++ [x] }))) := hid (fun w1 lv1 ht => by
    have hT := ht.trans (PTurn.of_below ht.is ((Below.refl _ _).alloc (Nat.le_refl _) (pl1 x)))
    refine hid ((pAdd_any hT.is hlo x hsane).mono (fun e w2 ⟨he, lv', ht'⟩ => ⟨he, lv', ?_⟩))
    rw [← hse]
    exact hT.trans ht')
  unfold pl1 at *
  clear h hx hk hse
  go_enter Try.func24, Try.ntmps24
  go_wp2_with (first
    | (go_at_call 37; (with_reducible refine H.out.mono ?_); rintro e w1 ⟨rfl, lv1, ht1⟩; have HA1 := HA.out _ _ ht1; clear ht1)
    | (go_at_call 27; (with_reducible refine HA1.out.mono ?_); rintro e w2 ⟨rfl, ht⟩))
  go_ret
  exact ⟨rfl, ht⟩
end
end Go.Proofs.Ytclkhkoappjgdaa
