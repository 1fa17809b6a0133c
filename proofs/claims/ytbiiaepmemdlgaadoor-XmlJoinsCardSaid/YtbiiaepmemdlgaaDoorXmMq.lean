/-
  LAYER 11 (xml), THE PROGRAM: doctype, plain.
-/
import Derived.Test.YtbiiaepmemdlgaaDoorXmMp
import Derived.Test.YtbiiaepmemdlgaaDoorXmInd
import Derived.StillTailTactics
namespace Go.Proofs.YtbiiaepmemdlgaaDoor
open Go.RowKit
set_option linter.unusedVariables false
set_option maxRecDepth 100000

theorem indexAny_in (cs : List UInt8) : ∀ l : List UInt8, 0 ≤ Lib.indexAny l cs ↔ ∃ b ∈ l, b ∈ cs
  | [] => by simp [Lib.indexAny]
  | b :: l => by
    have ih := indexAny_in cs l
    have hge := Lib.indexAny_ge cs l
    unfold Lib.indexAny
    by_cases hb : b ∈ cs
    · rw [if_pos (by simpa using hb)]
      exact ⟨fun _ => ⟨b, List.mem_cons_self .., hb⟩, fun _ => Int.le_refl _⟩
    · rw [if_neg (by simpa using hb)]
      have : (∃ x ∈ b :: l, x ∈ cs) ↔ ∃ x ∈ l, x ∈ cs := by
        constructor
        · rintro ⟨x, hx, hc⟩
          rcases List.mem_cons.1 hx with rfl | hx
          · exact absurd hc hb
          · exact ⟨x, hx, hc⟩
        · rintro ⟨x, hx, hc⟩; exact ⟨x, List.mem_cons_of_mem _ hx, hc⟩
      rw [this, ← ih]
      split
      · rename_i h1
        have : Lib.indexAny l cs = -1 := by simpa using h1
        omega
      · rename_i h1
        have : Lib.indexAny l cs ≠ -1 := by simpa using h1
        omega
theorem doc_in (l : List UInt8) : decide (0 ≤ Lib.indexAny l [91, 60]) = decide ((91 : UInt8) ∈ l ∨ (60 : UInt8) ∈ l) := by
  refine decide_eq_decide.2 ((indexAny_in _ l).trans ⟨?_, ?_⟩)
  · rintro ⟨b, hb, hc⟩
    simp at hc
    rcases hc with rfl | rfl
    · exact .inl hb
    · exact .inr hb
  · rintro (h | h)
    · exact ⟨_, h, by simp⟩
    · exact ⟨_, h, by simp⟩
set_option maxHeartbeats 1000000 in
theorem containsAny_any (s : ByteArray) (w : World) (hs : s.size ≤ 1000000000) :
    Calls Tryd.prog 34 #[.string s, .string ⟨#[91, 60]⟩] w fun e w' => e = .returned (.bool (decide ((91 : UInt8) ∈ s.data.toList ∨ (60 : UInt8) ∈ s.data.toList))) ∧ Below w.heap.size w w' := by
  have H : Hid (Calls Tryd.prog 41 #[.string s, .string ⟨#[91, 60]⟩] w fun e w' => e = .returned (.int .i64 (Lib.indexAny s.data.toList [91, 60])) ∧ Below w.heap.size w w') := hid (ixAny_any s ⟨#[91, 60]⟩ w rfl hs (ascii_of_all (by decide)))
  have HD := hid (doc_in s.data.toList)
  have hge := Lib.indexAny_ge [91, 60] s.data.toList
  generalize Lib.indexAny s.data.toList [91, 60] = q at *
  go_enter Tryd.func34, Tryd.ntmps34
  go_wp2_with (go_at_call 41; (with_reducible refine H.out.mono ?_); rintro e w2 ⟨rfl, hb2⟩)
  go_ret
  exact ⟨ret_bool HD.out, hb2⟩
section
variable {B : Nat} {F : Nat → Prop} {w w1 : World} {b : Nat} {s : RSt}
def docX (l : List UInt8) : Option (List UInt8) := (upTo [62] l).bind fun x => if (91 : UInt8) ∈ x.1 ∨ (60 : UInt8) ∈ x.1 then none else some x.2
def GDoc (B : Nat) (F : Nat → Prop) (w : World) (b : Nat) (s : RSt) (o : Option (List UInt8)) (e : Ending) (w2 : World) : Prop :=
  (∀ r, o = some r → e = .returned (.bool true) ∧ RGo B F w w2 b { s with rest := r }) ∧ (o = none → GFail B F w b (.bool false) e w2)
set_option maxHeartbeats 1000000 in
theorem gDoctype (k : RGo B F w w1 b s) (hl : s.rest.length ≤ 100000) :
    Calls Tryd.prog 20 #[.pointer (some ⟨b, 0, none⟩)] w1 (GDoc B F w b s (docX s.rest)) := by
  cases hu : upTo [62] s.rest with
  | none =>
    have HU := hid (gUpTo_no k hl ⟨#[62]⟩ (by decide) hu)
    have HD : Hid (docX s.rest = none) := hid (by unfold docX; rw [hu]; rfl)
    clear k hu hl
    go_enter Tryd.func20, Tryd.ntmps20
    go_wp2_with (go_at_call 19; (with_reducible refine HU.out.mono ?_); rintro e w2 ⟨rfl, k2⟩)
    go_ret
    exact ⟨fun r hr => (by rw [HD.out] at hr; cases hr), fun _ => ⟨rfl, _, k2⟩⟩
  | some x =>
    obtain ⟨a, y⟩ := x
    have hul := (upTo_lt hu).1
    have HU := hid (gUpTo_yes k hl ⟨#[62]⟩ (by decide) hu)
    have HC := hid (fun (w2 : World) (k2 : RGo B F w w2 b { s with rest := y }) => rGo_quiet k2 (fun _ _ => containsAny_any (mk a) w2 (by rw [mk_size]; omega)))
    have HD : Hid (docX s.rest = if (91 : UInt8) ∈ a ∨ (60 : UInt8) ∈ a then none else some y) := hid (by unfold docX; rw [hu]; rfl)
    have HC2 : Hid (∀ w2, RGo B F w w2 b { s with rest := y } → Calls Tryd.prog 34 #[.string (mk a), .string ⟨#[91, 60]⟩] w2 fun e w3 => e = .returned (.bool (decide ((91 : UInt8) ∈ a ∨ (60 : UInt8) ∈ a))) ∧ RGo B F w w3 b { s with rest := y }) := hid HC.out
    clear k hu hl hul HC
    by_cases h : (91 : UInt8) ∈ a ∨ (60 : UInt8) ∈ a
    · rw [decide_eq_true h] at HC2
      rw [if_pos h] at HD
      clear h
      go_enter Tryd.func20, Tryd.ntmps20
      go_wp2_with (first
        | (go_at_call 19; (with_reducible refine HU.out.mono ?_); rintro e w2 ⟨rfl, k2⟩)
        | (go_at_call 34; (with_reducible refine (HC2.out _ k2).mono ?_); rintro e w3 ⟨rfl, k3⟩))
      go_ret
      exact ⟨fun r hr => (by rw [HD.out] at hr; cases hr), fun _ => ⟨rfl, _, k3⟩⟩
    · rw [decide_eq_false h] at HC2
      rw [if_neg h] at HD
      clear h
      go_enter Tryd.func20, Tryd.ntmps20
      go_wp2_with (first
        | (go_at_call 19; (with_reducible refine HU.out.mono ?_); rintro e w2 ⟨rfl, k2⟩)
        | (go_at_call 34; (with_reducible refine (HC2.out _ k2).mono ?_); rintro e w3 ⟨rfl, k3⟩))
      go_ret
      exact ⟨fun r hr => (by rw [HD.out] at hr; cases hr; exact ⟨rfl, k3⟩), fun hr => (by rw [HD.out] at hr; cases hr)⟩
/-- A byte that stands for itself. -/
def plnX (c : UInt8) : Bool := !(c == 60 || c == 38)
theorem plain_ix : ∀ l : List UInt8, Lib.indexAny l [60, 38] = if (l.takeWhile plnX).length = l.length then -1 else ((l.takeWhile plnX).length : Int)
  | [] => rfl
  | c :: l => by
    have ih := plain_ix l
    unfold Lib.indexAny
    by_cases hc : c = 60 ∨ c = 38
    · have hp : plnX c = false := by unfold plnX; rcases hc with rfl | rfl <;> rfl
      rw [List.takeWhile_cons_of_neg (by simp [hp]), if_pos (by rcases hc with rfl | rfl <;> rfl)]
      simp
    · have hp : plnX c = true := by unfold plnX; simp at hc ⊢; exact hc
      have hn : [60, 38].contains c = false := by simp at hc ⊢; exact hc
      rw [hn, List.takeWhile_cons_of_pos hp, ih]
      simp only [Bool.false_eq_true, if_false, List.length_cons]
      have := (List.takeWhile_prefix (p := plnX) (l := l)).length_le
      split
      · rename_i h1
        rw [if_pos (by rfl), if_pos (by omega)]
      · rename_i h1
        have : (((l.takeWhile plnX).length : Int) == -1) = false := by simp
        rw [this, if_neg (by simp), if_neg (by omega)]
        push_cast; rfl
theorem plain_take (l : List UInt8) : l.take (l.takeWhile plnX).length = l.takeWhile plnX ∧ l.drop (l.takeWhile plnX).length = l.dropWhile plnX := by
  have h := List.takeWhile_append_dropWhile (p := plnX) (l := l)
  constructor
  · conv => lhs; rw [← h]
    rw [h]
    have := List.take_left (l₁ := l.takeWhile plnX) (l₂ := l.dropWhile plnX)
    rw [h] at this; exact this
  · have := List.drop_left (l₁ := l.takeWhile plnX) (l₂ := l.dropWhile plnX)
    rw [h] at this; exact this
set_option maxHeartbeats 2000000 in
theorem gPlain (k : RGo B F w w1 b s) (hl : s.rest.length ≤ 100000) (hw : s.words.length ≤ 200000) :
    Calls Tryd.prog 25 #[.pointer (some ⟨b, 0, none⟩)] w1 fun e w2 => e = .returned (.bool true) ∧ RGo B F w w2 b ⟨s.rest.dropWhile plnX, s.words ++ s.rest.takeWhile plnX, s.toks⟩ := by
  obtain ⟨c0, f0⟩ := rGo_rest k
  have hk := (List.takeWhile_prefix (p := plnX) (l := s.rest)).length_le
  obtain ⟨t1, t2⟩ := plain_take s.rest
  have hix := plain_ix s.rest
  have HI : Hid (Calls Tryd.prog 41 #[.string (mk s.rest), .string ⟨#[60, 38]⟩] w1 fun e w2 => e = .returned (.int .i64 (Lib.indexAny s.rest [60, 38])) ∧ RGo B F w w2 b s) := hid (rGo_quiet k (fun _ _ => ixAny_any (mk s.rest) ⟨#[60, 38]⟩ w1 rfl (by rw [mk_size]; omega) (ascii_of_all (by decide))))
  have HW := hid (fun (w2 : World) (k2 : RGo B F w w2 b s) => gWrite k2 (mk (s.rest.takeWhile plnX)) (by rw [mk_size]; omega))
  have hsz : (mk s.rest).size = s.rest.length := mk_size _
  have S1 := hid (fun wx => slice_h (s := mk s.rest) (hi := ((s.rest.takeWhile plnX).length : Int)) (l := s.rest.takeWhile plnX) (by omega) (by rw [hsz]; omega) (by rw [mk_data, Int.toNat_natCast]; exact t1) wx)
  have S2 := hid (fun wx => slice_l (s := mk s.rest) (lo := ((s.rest.takeWhile plnX).length : Int)) (l := s.rest.dropWhile plnX) (by omega) (by rw [hsz]; omega) (by rw [mk_data, Int.toNat_natCast]; exact t2) wx)
  rw [hix] at HI
  have HR2 : Hid (∀ w2, RGo B F w w2 b s → w2.cell? ⟨b, 0, none⟩ = some (.string (mk s.rest)) ∧ w2.frozen? ⟨b, 0, none⟩ = false) := hid (fun w2 k2 => rGo_rest k2)
  have HR3 : Hid (∀ w2, RGo B F w w2 b { s with words := s.words ++ (mk (s.rest.takeWhile plnX)).data.toList } → w2.cell? ⟨b, 0, none⟩ = some (.string (mk s.rest)) ∧ w2.frozen? ⟨b, 0, none⟩ = false) := hid (fun w2 k2 => rGo_rest (s := { s with words := s.words ++ (mk (s.rest.takeWhile plnX)).data.toList }) k2)
  clear k t1 t2 hix hw hl
  generalize s.rest.takeWhile plnX = tk at *
  generalize s.rest.dropWhile plnX = dp at *
  generalize mk s.rest = R at *
  by_cases he : tk.length = s.rest.length
  · rw [if_pos he] at HI
    rw [he, ← hsz] at S1 S2
    have s1 := S1.out
    have s2 := S2.out
    clear he hsz hk S1 S2
    go_enter Tryd.func25, Tryd.ntmps25
    go_wp2_with (go_at_call 41; (with_reducible refine HI.out.mono ?_); rintro e w2 ⟨rfl, k2⟩; obtain ⟨c0, f0⟩ := HR2.out _ k2)
    have c0d : w2.drew.cell? ⟨b, 0, none⟩ = some (.string R) := c0
    have HW2 := hid (HW.out _ (rGo_later k2 (Below.drew (Below.refl w2.heap.size w2))))
    go_region_with (go_at_call 28; (with_reducible refine HW2.out.mono ?_); rintro e w3 ⟨rfl, k3⟩; obtain ⟨d0, g0⟩ := HR3.out _ k3)
    all_goals
      go_wp2
      go_ret
      exact ⟨rfl, rGo_store k3 _⟩
  · rw [if_neg he] at HI
    have s1 := S1.out
    have s2 := S2.out
    clear he hsz hk S1 S2
    generalize tk.length = n at *
    go_enter Tryd.func25, Tryd.ntmps25
    go_wp2_with (go_at_call 41; (with_reducible refine HI.out.mono ?_); rintro e w2 ⟨rfl, k2⟩; obtain ⟨c0, f0⟩ := HR2.out _ k2)
    have c0d : w2.drew.cell? ⟨b, 0, none⟩ = some (.string R) := c0
    have HW2 := hid (HW.out _ (rGo_later k2 (Below.drew (Below.refl w2.heap.size w2))))
    go_region_with (go_at_call 28; (with_reducible refine HW2.out.mono ?_); rintro e w3 ⟨rfl, k3⟩; obtain ⟨d0, g0⟩ := HR3.out _ k3)
    all_goals
      go_wp2
      go_ret
      exact ⟨rfl, rGo_store k3 _⟩
end
end Go.Proofs.YtbiiaepmemdlgaaDoor
