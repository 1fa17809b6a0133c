/-
  LAYER 6 (net), THE DOCUMENT's ANSWER: Twice, Lose, Take.
-/
import Derived.Test.YtclkhkoappjgdaaNtSend
namespace Go.Proofs.Ytclkhkoappjgdaa
open Go.RowKit
set_option linter.unusedVariables false
set_option maxRecDepth 100000

section
variable {w : World} {r : Nat} {lv gv : Value} {s : Nt}
/-- The k-th letter's cells, as the walk spells them. -/
theorem RNet.letter (h : RNet w r lv gv s) {k : Nat} (hk : k < s.L.length) {x : Lt} (hx : s.L[k] = x) : ∃ sb so cap, lv = .slice (some ⟨sb, so, none⟩) s.L.length cap ∧ sb < w.heap.size ∧ w.cell? ⟨sb, so + k * 3, none⟩ = some (.int .i64 x.fr) ∧ w.cell? ⟨sb, so + k * 3 + 1, none⟩ = some (.int .i64 x.to_) ∧ w.cell? ⟨sb, so + k * 3 + 2, none⟩ = some (.string x.dt) := by
  obtain ⟨ao, cap, hv, _, _, hc⟩ := h.row.at rlTy_ok
  obtain ⟨sb, so, rfl, hlt, hcs⟩ := hc k x (by rw [List.getElem?_eq_getElem hk, hx])
  exact ⟨sb, so, cap, hv, hlt, hcs 0 _ rfl, hcs 1 _ rfl, hcs 2 _ rfl⟩
theorem rIs_yes (h : RNet w r lv gv s) {k : Nat} (hk : k < s.L.length) :
    Calls Try.prog 38 #[.pointer (some ⟨r, 0, none⟩), .int .i64 (k : Int)] w fun e w' => e = .returned (.bool true) ∧ w = w' := by
  have := rIs_any h (k : Int)
  rw [show decide (0 ≤ (k : Int) ∧ (k : Int) < (s.L.length : Int)) = true from decide_eq_true (by omega)] at this
  exact this
theorem rIs_no (h : RNet w r lv gv s) {k : Int} (hk : k < 0 ∨ (s.L.length : Int) ≤ k) :
    Calls Try.prog 38 #[.pointer (some ⟨r, 0, none⟩), .int .i64 k] w fun e w' => e = .returned (.bool false) ∧ w = w' := by
  have := rIs_any h k
  rw [show decide (0 ≤ k ∧ k < (s.L.length : Int)) = false from decide_eq_false (by omega)] at this
  exact this
theorem rTwice_no (h : RNet w r lv gv s) {k : Int} (hk : k < 0 ∨ (s.L.length : Int) ≤ k) :
    Calls Try.prog 30 #[.pointer (some ⟨r, 0, none⟩), .int .i64 k] w fun e w' => e = .returned (.bool false) ∧ w = w' := by
  have H := hid (rIs_no h hk)
  clear h hk
  go_enter Try.func30, Try.ntmps30
  go_wp2_with (go_at_call 38; (with_reducible refine H.out.mono ?_); rintro e w1 ⟨rfl, rfl⟩)
  go_ret
  exact ⟨rfl, rfl⟩
theorem rTwice_yes (h : RNet w r lv gv s) (hl : s.L.length ≤ 300) (hlo : s.lost < 100000) {k : Nat} (hk : k < s.L.length) {x : Lt} (hx : s.L[k] = x) :
    Calls Try.prog 30 #[.pointer (some ⟨r, 0, none⟩), .int .i64 (k : Int)] w fun e w' => e = .returned (.bool true) ∧ ∃ lv', RTurn w w' r lv lv' gv (s.send x) := by
  have H := hid (rIs_yes h hk)
  have HS := hid (rSend_any h hl hlo x)
  obtain ⟨sb, so, cap, rfl, _, c1, c2, c3⟩ := h.letter hk hx
  have c0 : w.cell? ⟨r, 0, none⟩ = some (.slice (some ⟨sb, so, none⟩) s.L.length cap) := (h.head.cell 0).trans rfl
  have hkI : (k : Int) < (s.L.length : Int) := by omega
  clear h hx
  go_enter Try.func30, Try.ntmps30
  go_wp2_with (first
    | (go_at_call 38; (with_reducible refine H.out.mono ?_); rintro e w1 ⟨rfl, rfl⟩)
    | (go_at_call 13; (with_reducible refine HS.out.mono ?_); rintro e w2 ⟨rfl, lv', ht⟩; have HT := hid ht; clear ht))
  go_ret
  exact ⟨rfl, lv', HT.out⟩
theorem rLose_no (h : RNet w r lv gv s) {k : Int} (hk : k < 0 ∨ (s.L.length : Int) ≤ k) :
    Calls Try.prog 31 #[.pointer (some ⟨r, 0, none⟩), .int .i64 k] w fun e w' => e = .returned (.bool false) ∧ w = w' := by
  have H := hid (rIs_no h hk)
  clear h hk
  go_enter Try.func31, Try.ntmps31
  go_wp2_with (go_at_call 38; (with_reducible refine H.out.mono ?_); rintro e w1 ⟨rfl, rfl⟩)
  go_ret
  exact ⟨rfl, rfl⟩
theorem rLose_yes (h : RNet w r lv gv s) (hlo : s.lost < 100000) {k : Nat} (hk : k < s.L.length) :
    Calls Try.prog 31 #[.pointer (some ⟨r, 0, none⟩), .int .i64 (k : Int)] w fun e w' => e = .returned (.bool true) ∧ ∃ lv', RTurn w w' r lv lv' gv { s.out k with lost := s.lost + 1 } := by
  have H := hid (rIs_yes h hk)
  have HO := hid (rOut_any h k hk)
  have hW : IntKind.i64.wrap ((s.lost : Int) + 1) = ((s.lost + 1 : Nat) : Int) := by rw [show ((s.lost + 1 : Nat) : Int) = (s.lost : Int) + 1 by omega]; exact IntWalk.i64_in _ (by omega)
  have HL : Hid (∀ w2 lv2, RTurn w w2 r lv lv2 gv (s.out k) → w2.cell? ⟨r, 2, none⟩ = some (.int .i64 (s.lost : Int)) ∧ w2.frozen? ⟨r, 2, none⟩ = false ∧ Hid (RTurn w (w2.setCell ⟨r, 2, none⟩ (.int .i64 ((s.lost + 1 : Nat) : Int))) r lv lv2 gv { s.out k with lost := s.lost + 1 })) := hid (fun w2 lv2 ht =>
    ⟨(ht.is.head.cell 2).trans rfl, ht.is.head.frozen 2, hid (ht.trans (ht.is.lose hlo))⟩)
  clear h hk
  go_enter Try.func31, Try.ntmps31
  go_wp2_with (first
    | (go_at_call 38; (with_reducible refine H.out.mono ?_); rintro e w1 ⟨rfl, rfl⟩)
    | (go_at_call 28; (with_reducible refine HO.out.mono ?_); rintro e w2 ⟨rfl, lv2, ht⟩; obtain ⟨c2, f2, hS⟩ := HL.out _ _ ht; clear ht))
  go_ret
  exact ⟨rfl, _, hS.out⟩
end
end Go.Proofs.Ytclkhkoappjgdaa
