/-
  LAYER 11 (xml), THE PROGRAM: closing.
-/
import Derived.Test.YtbiiaepmemdlgaaDoorXmMm
namespace Go.Proofs.YtbiiaepmemdlgaaDoor
open Go.RowKit
set_option linter.unusedVariables false
set_option maxRecDepth 100000

section
variable {B : Nat} {F S : Nat → Prop} {w w1 : World} {b : Nat} {s : RSt}
theorem rTo_sub (hS : ∀ x, S x → F x) (h : RTo S w w1 b s) : RTo F w w1 b s := by
  obtain ⟨F1, i, c, g⟩ := h
  exact ⟨F1, i, c.mono hS, fun x hx => (g x hx).imp (hS x) id⟩
theorem gTag0 (k : RGo B F w w1 b s) (hl : s.toks.length ≤ 90000) (t : Int) (n : List UInt8) :
    Calls Tryd.prog 37 #[.pointer (some ⟨b, 0, none⟩), .agg #[.int .i64 t, .string (mk n), .slice none 0 0, .string ⟨#[]⟩]] w1 fun e w2 => e = .returned (.tuple #[]) ∧ RGo B F w w2 b ⟨s.rest, [], s.toks ++ endW s.words ++ [⟨t, n, [], []⟩]⟩ :=
  rGo_lift (Q := fun e => e = .returned (.tuple #[])) (fun F1 i _ => (rTag_to i hl ⟨t, n, [], []⟩ none 0 0 (rAt_nil _) (fun g hg => by simp [Value.ownBlock] at hg)).mono fun e w2 ⟨h1, h2⟩ => ⟨h1, rTo_sub (fun x hx => hx.elim id (fun e => by simp [Value.ownBlock] at e)) h2⟩) k
theorem endX_past (l : List UInt8) : endX l = if (nameX l).1 = [] then none else (past [62] ((nameX l).2.dropWhile spcX)).map fun r => ([closeT (nameX l).1], r) := by
  unfold endX
  by_cases hn : (nameX l).1 = []
  · rw [if_pos hn, if_pos hn]
  rw [if_neg hn, if_neg hn]
  split
  · rename_i r e; rw [e]; rfl
  · rename_i h62
    cases hd : (nameX l).2.dropWhile spcX with
    | nil => rfl
    | cons q r =>
      have hq : q ≠ 62 := fun e => h62 r (by rw [hd, e])
      have : past [62] (q :: r) = none := by simp [past, List.isPrefixOf, Ne.symm hq]
      rw [this]; rfl
set_option maxHeartbeats 2000000 in
theorem gClosing_yes (k : RGo B F w w1 b s) (hl : s.rest.length ≤ 100000) (ht : s.toks.length ≤ 90000) {l : List TkX} {r : List UInt8} (h : endX s.rest = some (l, r)) :
    Calls Tryd.prog 22 #[.pointer (some ⟨b, 0, none⟩)] w1 fun e w2 => e = .returned (.bool true) ∧ RGo B F w w2 b ⟨r, [], s.toks ++ endW s.words ++ l⟩ := by
  rw [endX_past] at h
  by_cases hn : (nameX s.rest).1 = []
  · rw [if_pos hn] at h; cases h
  rw [if_neg hn] at h
  have hd : decide ((nameX s.rest).1 ≠ []) = true := by simp [hn]
  have HN := hid (gName k hl)
  rw [hd] at HN
  have HS := hid (fun (w2 : World) (k : RGo B F w w2 b { s with rest := (nameX s.rest).2 }) => gSpace k)
  obtain ⟨r', hp, he⟩ := Option.map_eq_some_iff.1 h
  cases he
  have HP := hid (fun (w2 : World) (k : RGo B F w w2 b { s with rest := (nameX s.rest).2.dropWhile spcX }) => gPast_yes k ⟨#[62]⟩ hp)
  have HT := hid (fun (w2 : World) (k : RGo B F w w2 b { s with rest := r }) => gTag0 k ht 2 (nameX s.rest).1)
  clear k h hn hd hp hl ht
  generalize (nameX s.rest).1 = nm at *
  go_enter Tryd.func22, Tryd.ntmps22
  go_wp2_with (first
    | (go_at_call 35; (with_reducible refine HN.out.mono ?_); rintro e w2 ⟨rfl, k2⟩)
    | (go_at_call 36; (with_reducible refine (HS.out _ k2).mono ?_); rintro e w3 ⟨rfl, k3⟩)
    | (go_at_call 18; (with_reducible refine (HP.out _ k3).mono ?_); rintro e w4 ⟨rfl, k4⟩)
    | (go_at_call 37; (with_reducible refine (HT.out _ k4).mono ?_); rintro e w5 ⟨rfl, k5⟩))
  go_ret
  exact ⟨rfl, k5⟩
set_option maxHeartbeats 2000000 in
theorem gClosing_no (k : RGo B F w w1 b s) (hl : s.rest.length ≤ 100000) (h : endX s.rest = none) :
    Calls Tryd.prog 22 #[.pointer (some ⟨b, 0, none⟩)] w1 (GFail B F w b (.bool false)) := by
  rw [endX_past] at h
  have HN := hid (gName k hl)
  have HS := hid (fun (w2 : World) (k : RGo B F w w2 b { s with rest := (nameX s.rest).2 }) => gSpace k)
  by_cases hn : (nameX s.rest).1 = []
  · have hd : decide ((nameX s.rest).1 ≠ []) = false := by simp [hn]
    rw [hd] at HN
    clear k h hn hd hl
    go_enter Tryd.func22, Tryd.ntmps22
    go_wp2_with (first
      | (go_at_call 35; (with_reducible refine HN.out.mono ?_); rintro e w2 ⟨rfl, k2⟩)
      | (go_at_call 36; (with_reducible refine (HS.out _ k2).mono ?_); rintro e w3 ⟨rfl, k3⟩))
    go_ret
    exact ⟨rfl, _, k3⟩
  · have hd : decide ((nameX s.rest).1 ≠ []) = true := by simp [hn]
    rw [hd] at HN
    rw [if_neg hn] at h
    have hp : past [62] ((nameX s.rest).2.dropWhile spcX) = none := by simpa using h
    have HP := hid (fun (w2 : World) (k : RGo B F w w2 b { s with rest := (nameX s.rest).2.dropWhile spcX }) => gPast_no k ⟨#[62]⟩ hp)
    clear k h hn hd hp hl
    go_enter Tryd.func22, Tryd.ntmps22
    go_wp2_with (first
      | (go_at_call 35; (with_reducible refine HN.out.mono ?_); rintro e w2 ⟨rfl, k2⟩)
      | (go_at_call 36; (with_reducible refine (HS.out _ k2).mono ?_); rintro e w3 ⟨rfl, k3⟩)
      | (go_at_call 18; (with_reducible refine (HP.out _ k3).mono ?_); rintro e w4 ⟨rfl, k4⟩))
    go_ret
    exact ⟨rfl, _, k4⟩
end
end Go.Proofs.YtbiiaepmemdlgaaDoor
