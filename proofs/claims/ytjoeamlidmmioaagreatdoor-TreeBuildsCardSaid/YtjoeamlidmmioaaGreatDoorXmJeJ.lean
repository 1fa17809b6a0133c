import Derived.Test.YtjoeamlidmmioaaGreatDoorXmJdJ
import Derived.Test.YtjoeamlidmmioaaGreatDoorXmIndJ
import Derived.StillTailTactics
/-
  LAYER 11 (xml), THE PROGRAM: doctype, plain.
-/
namespace Go.Proofs.YtjoeamlidmmioaaGreatDoor
open Go.RowKit
set_option linter.unusedVariables false
set_option maxRecDepth 100000

theorem indexAny_in (cs : List UInt8) : ∀ l : List UInt8, 0 ≤ Lib.indexAny l cs ↔ ∃ b ∈ l, b ∈ cs
  | [] => by simp [Lib.indexAny]
  | b :: l => by
    have ih := indexAny_in cs l
    have hge := Lib.indexAny_ge cs l
    unfold Lib.indexAny
    by_cases hb : b ∈ cs
    · rw [if_pos (by simpa using hb)]
      exact ⟨fun _ => ⟨b, List.mem_cons_self .., hb⟩, fun _ => Int.le_refl _⟩
    · rw [if_neg (by simpa using hb)]
      have : (∃ x ∈ b :: l, x ∈ cs) ↔ ∃ x ∈ l, x ∈ cs := by
        constructor
        · rintro ⟨x, hx, hc⟩
          rcases List.mem_cons.1 hx with rfl | hx
          · exact absurd hc hb
          · exact ⟨x, hx, hc⟩
        · rintro ⟨x, hx, hc⟩; exact ⟨x, List.mem_cons_of_mem _ hx, hc⟩
      rw [this, ← ih]
      split
      · rename_i h1
        have : Lib.indexAny l cs = -1 := by simpa using h1
        omega
      · rename_i h1
        have : Lib.indexAny l cs ≠ -1 := by simpa using h1
        omega
theorem doc_in (l : List UInt8) : decide (0 ≤ Lib.indexAny l [91, 60]) = decide ((91 : UInt8) ∈ l ∨ (60 : UInt8) ∈ l) := by
  refine decide_eq_decide.2 ((indexAny_in _ l).trans ⟨?_, ?_⟩)
  · rintro ⟨b, hb, hc⟩
    simp at hc
    rcases hc with rfl | rfl
    · exact .inl hb
    · exact .inr hb
  · rintro (h | h)
    · exact ⟨_, h, by simp⟩
    · exact ⟨_, h, by simp⟩
set_option maxHeartbeats 1000000 in
theorem containsAny_any (s : ByteArray) (w : World) (hs : s.size ≤ 1000000000) :
    Calls Tryz.prog 45 #[.string s, .string ⟨#[91, 60]⟩] w fun e w' => e = .returned (.bool (decide ((91 : UInt8) ∈ s.data.toList ∨ (60 : UInt8) ∈ s.data.toList))) ∧ Below w.heap.size w w' := by
  have H : Hid (Calls Tryz.prog 52 #[.string s, .string ⟨#[91, 60]⟩] w fun e w' => e = .returned (.int .i64 (Lib.indexAny s.data.toList [91, 60])) ∧ Below w.heap.size w w') := hid (ixAny_any s ⟨#[91, 60]⟩ w rfl hs (ascii_of_all (by decide)))
  have HD := hid (doc_in s.data.toList)
  have hge := Lib.indexAny_ge [91, 60] s.data.toList
  generalize Lib.indexAny s.data.toList [91, 60] = q at *
  go_enter Tryz.func45, Tryz.ntmps45
  go_wp2_with (go_at_call 52; (with_reducible refine H.out.mono ?_); rintro e w2 ⟨rfl, hb2⟩)
  go_ret
  exact ⟨ret_bool HD.out, hb2⟩
section
variable {B : Nat} {F : Nat → Prop} {w w1 : World} {b : Nat} {s : RSt}
def docX (l : List UInt8) : Option (List UInt8) := (upTo [62] l).bind fun x => if (91 : UInt8) ∈ x.1 ∨ (60 : UInt8) ∈ x.1 then none else some x.2
def GDoc (B : Nat) (F : Nat → Prop) (w : World) (b : Nat) (s : RSt) (o : Option (List UInt8)) (e : Ending) (w2 : World) : Prop :=
  (∀ r, o = some r → e = .returned (.bool true) ∧ RGo B F w w2 b { s with rest := r }) ∧ (o = none → GFail B F w b (.bool false) e w2)
set_option maxHeartbeats 1000000 in
theorem gDoctype (k : RGo B F w w1 b s) (hl : s.rest.length ≤ 100000) :
    Calls Tryz.prog 26 #[.pointer (some ⟨b, 0, none⟩)] w1 (GDoc B F w b s (docX s.rest)) := by
  cases hu : upTo [62] s.rest with
  | none =>
    have HU := hid (gUpTo_no k hl ⟨#[62]⟩ (by decide) hu)
    have HD : Hid (docX s.rest = none) := hid (by unfold docX; rw [hu]; rfl)
    clear k hu hl
    go_enter Tryz.func26, Tryz.ntmps26
    go_wp2_with (go_at_call 25; (with_reducible refine HU.out.mono ?_); rintro e w2 ⟨rfl, k2⟩)
    go_ret
    exact ⟨fun r hr => (by rw [HD.out] at hr; cases hr), fun _ => ⟨rfl, _, k2⟩⟩
  | some x =>
    obtain ⟨a, y⟩ := x
    have hul := (upTo_lt hu).1
    have HU := hid (gUpTo_yes k hl ⟨#[62]⟩ (by decide) hu)
    have HC := hid (fun (w2 : World) (k2 : RGo B F w w2 b { s with rest := y }) => rGo_quiet k2 (fun _ _ => containsAny_any (mk a) w2 (by rw [mk_size]; omega)))
    have HD : Hid (docX s.rest = if (91 : UInt8) ∈ a ∨ (60 : UInt8) ∈ a then none else some y) := hid (by unfold docX; rw [hu]; rfl)
    have HC2 : Hid (∀ w2, RGo B F w w2 b { s with rest := y } → Calls Tryz.prog 45 #[.string (mk a), .string ⟨#[91, 60]⟩] w2 fun e w3 => e = .returned (.bool (decide ((91 : UInt8) ∈ a ∨ (60 : UInt8) ∈ a))) ∧ RGo B F w w3 b { s with rest := y }) := hid HC.out
    clear k hu hl hul HC
    by_cases h : (91 : UInt8) ∈ a ∨ (60 : UInt8) ∈ a
    · rw [decide_eq_true h] at HC2
      rw [if_pos h] at HD
      clear h
      go_enter Tryz.func26, Tryz.ntmps26
      go_wp2_with (first
        | (go_at_call 25; (with_reducible refine HU.out.mono ?_); rintro e w2 ⟨rfl, k2⟩)
        | (go_at_call 45; (with_reducible refine (HC2.out _ k2).mono ?_); rintro e w3 ⟨rfl, k3⟩))
      go_ret
      exact ⟨fun r hr => (by rw [HD.out] at hr; cases hr), fun _ => ⟨rfl, _, k3⟩⟩
    · rw [decide_eq_false h] at HC2
      rw [if_neg h] at HD
      clear h
      go_enter Tryz.func26, Tryz.ntmps26
      go_wp2_with (first
        | (go_at_call 25; (with_reducible refine HU.out.mono ?_); rintro e w2 ⟨rfl, k2⟩)
        | (go_at_call 45; (with_reducible refine (HC2.out _ k2).mono ?_); rintro e w3 ⟨rfl, k3⟩))
      go_ret
      exact ⟨fun r hr => (by rw [HD.out] at hr; cases hr; exact ⟨rfl, k3⟩), fun hr => (by rw [HD.out] at hr; cases hr)⟩
/-- A byte that stands for itself. -/
def plnX (c : UInt8) : Bool := !(c == 60 || c == 38)
theorem plain_ix : ∀ l : List UInt8, Lib.indexAny l [60, 38] = if (l.takeWhile plnX).length = l.length then -1 else ((l.takeWhile plnX).length : Int)
  | [] => rfl
  | c :: l => by
    have ih := plain_ix l
    unfold Lib.indexAny
    by_cases hc : c = 60 ∨ c = 38
    · have hp : plnX c = false := by unfold plnX; rcases hc with rfl | rfl <;> rfl
      rw [List.takeWhile_cons_of_neg (by simp [hp]), if_pos (by rcases hc with rfl | rfl <;> rfl)]
      simp
    · have hp : plnX c = true := by unfold plnX; simp at hc ⊢; exact hc
      have hn : [60, 38].contains c = false := by simp at hc ⊢; exact hc
      rw [hn, List.takeWhile_cons_of_pos hp, ih]
      simp only [Bool.false_eq_true, if_false, List.length_cons]
      have := (List.takeWhile_prefix (p := plnX) (l := l)).length_le
      split
      · rename_i h1
        rw [if_pos (by rfl), if_pos (by omega)]
      · rename_i h1
        have : (((l.takeWhile plnX).length : Int) == -1) = false := by simp
        rw [this, if_neg (by simp), if_neg (by omega)]
        push_cast; rfl
theorem plain_take (l : List UInt8) : l.take (l.takeWhile plnX).length = l.takeWhile plnX ∧ l.drop (l.takeWhile plnX).length = l.dropWhile plnX := by
  have h := List.takeWhile_append_dropWhile (p := plnX) (l := l)
  constructor
  · conv => lhs; rw [← h]
    rw [h]
    have := List.take_left (l₁ := l.takeWhile plnX) (l₂ := l.dropWhile plnX)
    rw [h] at this; exact this
  · have := List.drop_left (l₁ := l.takeWhile plnX) (l₂ := l.dropWhile plnX)
    rw [h] at this; exact this
set_option maxHeartbeats 2000000 in
theorem gPlain (k : RGo B F w w1 b s) (hl : s.rest.length ≤ 100000) (hw : s.words.length ≤ 200000) :
    Calls Tryz.prog 31 #[.pointer (some ⟨b, 0, none⟩)] w1 fun e w2 => e = .returned (.bool true) ∧ RGo B F w w2 b ⟨s.rest.dropWhile plnX, s.words ++ s.rest.takeWhile plnX, s.toks⟩ := by
  obtain ⟨c0, f0⟩ := rGo_rest k
  have hk := (List.takeWhile_prefix (p := plnX) (l := s.rest)).length_le
  obtain ⟨t1, t2⟩ := plain_take s.rest
  have hix := plain_ix s.rest
  have HI : Hid (Calls Tryz.prog 52 #[.string (mk s.rest), .string ⟨#[60, 38]⟩] w1 fun e w2 => e = .returned (.int .i64 (Lib.indexAny s.rest [60, 38])) ∧ RGo B F w w2 b s) := hid (rGo_quiet k (fun _ _ => ixAny_any (mk s.rest) ⟨#[60, 38]⟩ w1 rfl (by rw [mk_size]; omega) (ascii_of_all (by decide))))
  have HW := hid (fun (w2 : World) (k2 : RGo B F w w2 b s) => gWrite k2 (mk (s.rest.takeWhile plnX)) (by rw [mk_size]; omega))
  have hsz : (mk s.rest).size = s.rest.length := mk_size _
  have S1 := hid (fun wx => slice_h (s := mk s.rest) (hi := ((s.rest.takeWhile plnX).length : Int)) (l := s.rest.takeWhile plnX) (by omega) (by rw [hsz]; omega) (by rw [mk_data, Int.toNat_natCast]; exact t1) wx)
  have S2 := hid (fun wx => slice_l (s := mk s.rest) (lo := ((s.rest.takeWhile plnX).length : Int)) (l := s.rest.dropWhile plnX) (by omega) (by rw [hsz]; omega) (by rw [mk_data, Int.toNat_natCast]; exact t2) wx)
  rw [hix] at HI
  have HR2 : Hid (∀ w2, RGo B F w w2 b s → w2.cell? ⟨b, 0, none⟩ = some (.string (mk s.rest)) ∧ w2.frozen? ⟨b, 0, none⟩ = false) := hid (fun w2 k2 => rGo_rest k2)
  have HR3 : Hid (∀ w2, RGo B F w w2 b { s with words := s.words ++ (mk (s.rest.takeWhile plnX)).data.toList } → w2.cell? ⟨b, 0, none⟩ = some (.string (mk s.rest)) ∧ w2.frozen? ⟨b, 0, none⟩ = false) := hid (fun w2 k2 => rGo_rest (s := { s with words := s.words ++ (mk (s.rest.takeWhile plnX)).data.toList }) k2)
  clear k t1 t2 hix hw hl
  generalize s.rest.takeWhile plnX = tk at *
  generalize s.rest.dropWhile plnX = dp at *
  generalize mk s.rest = R at *
  by_cases he : tk.length = s.rest.length
  · rw [if_pos he] at HI
    rw [he, ← hsz] at S1 S2
    have s1 := S1.out
    have s2 := S2.out
    clear he hsz hk S1 S2
    go_enter Tryz.func31, Tryz.ntmps31
    go_wp2_with (go_at_call 52; (with_reducible refine HI.out.mono ?_); rintro e w2 ⟨rfl, k2⟩; obtain ⟨c0, f0⟩ := HR2.out _ k2)
    have c0d : w2.drew.cell? ⟨b, 0, none⟩ = some (.string R) := c0
    have HW2 := hid (HW.out _ (rGo_later k2 (Below.drew (Below.refl w2.heap.size w2))))
    go_region_with (go_at_call 39; (with_reducible refine HW2.out.mono ?_); rintro e w3 ⟨rfl, k3⟩; obtain ⟨d0, g0⟩ := HR3.out _ k3)
    all_goals
      go_wp2
      go_ret
      exact ⟨rfl, rGo_store k3 _⟩
  · rw [if_neg he] at HI
    have s1 := S1.out
    have s2 := S2.out
    clear he hsz hk S1 S2
    generalize tk.length = n at *
    go_enter Tryz.func31, Tryz.ntmps31
    go_wp2_with (go_at_call 52; (with_reducible refine HI.out.mono ?_); rintro e w2 ⟨rfl, k2⟩; obtain ⟨c0, f0⟩ := HR2.out _ k2)
    have c0d : w2.drew.cell? ⟨b, 0, none⟩ = some (.string R) := c0
    have HW2 := hid (HW.out _ (rGo_later k2 (Below.drew (Below.refl w2.heap.size w2))))
    go_region_with (go_at_call 39; (with_reducible refine HW2.out.mono ?_); rintro e w3 ⟨rfl, k3⟩; obtain ⟨d0, g0⟩ := HR3.out _ k3)
    all_goals
      go_wp2
      go_ret
      exact ⟨rfl, rGo_store k3 _⟩
end
end Go.Proofs.YtjoeamlidmmioaaGreatDoor
/-
  LAYER 11 (xml), THE PROGRAM: what Read's walk needs (written by tools/gen11_read.py).
-/
namespace Go.Proofs.YtjoeamlidmmioaaGreatDoor
open Go.RowKit
set_option linter.unusedVariables false
set_option maxRecDepth 100000

/-- What Read answers: tokens, error, offset. -/
def readR (l : List UInt8) : List TkX × Int × Int := if 20000 < l.length then ([], 10, 0) else match readX l with
  | (some L, _) => (L, 0, 0)
  | (none, n) => ([], 8, (n : Nat))
def RdPost2 (w : World) (R : List TkX × Int × Int) (e : Ending) (w' : World) : Prop :=
  ∃ a c, e = .returned (.tuple #[.slice a R.1.length c, .int .i64 R.2.1, .int .i64 R.2.2]) ∧ TokAt w' (.slice a R.1.length c) R.1 ∧ Below w.heap.size w w'
/-- How far the loop has come. -/
structure RdInv (l0 : List UInt8) (s : RSt) : Prop where
  toks : tokX [] (partsX l0).1 = s.toks ++ tokX s.words (partsX s.rest).1
  err : (partsX l0).2 = (partsX s.rest).2
  len : s.rest.length ≤ l0.length
  wl : s.words.length + 4 * s.rest.length ≤ 80000
  tl : s.toks.length + 3 * s.rest.length ≤ 60000
theorem rdInv_start {l : List UInt8} (h : l.length ≤ 20000) : RdInv l ⟨l, [], []⟩ := ⟨by simp, rfl, Nat.le_refl _, by simp; omega, by simp; omega⟩
theorem rdInv_txt {l0 r t : List UInt8} {s : RSt} (h : RdInv l0 s) (hp : partX s.rest = some (.txt t, r)) (ht : t.length + 4 * r.length ≤ 4 * s.rest.length) : RdInv l0 ⟨r, s.words ++ t, s.toks⟩ := by
  have hl := partX_lt hp
  obtain ⟨h1, h2, h3, h4, h5⟩ := h
  rw [partsX_some hp] at h1 h2
  exact ⟨h1, h2, by show r.length ≤ _; omega, by simp; omega, by show s.toks.length + 3 * r.length ≤ _; omega⟩
theorem rdInv_tags {l0 r : List UInt8} {L : List TkX} {s : RSt} (h : RdInv l0 s) (hp : partX s.rest = some (.tags L, r)) (hL : L.length ≤ 2) : RdInv l0 ⟨r, [], s.toks ++ endW s.words ++ L⟩ := by
  have hl := partX_lt hp
  obtain ⟨h1, h2, h3, h4, h5⟩ := h
  rw [partsX_some hp] at h1 h2
  have he : (endW s.words).length ≤ 1 := by unfold endW; split <;> simp
  refine ⟨by rw [h1]; show s.toks ++ (endW s.words ++ L ++ tokX [] (partsX r).1) = _; simp, h2, by show r.length ≤ _; omega, by show ([] : List UInt8).length + 4 * r.length ≤ _; simp; omega, ?_⟩
  show (s.toks ++ endW s.words ++ L).length + 3 * r.length ≤ _
  rw [List.length_append, List.length_append]; omega
theorem partsX_plain : ∀ l : List UInt8, partsX l = ((l.takeWhile plnX).map (fun c => .txt [c]) ++ (partsX (l.dropWhile plnX)).1, (partsX (l.dropWhile plnX)).2)
  | [] => rfl
  | c :: r => by
    by_cases hc : plnX c = true
    · have h1 : c ≠ 60 := by rintro rfl; exact absurd hc (by decide)
      have h2 : c ≠ 38 := by rintro rfl; exact absurd hc (by decide)
      rw [List.takeWhile_cons_of_pos hc, List.dropWhile_cons_of_pos hc, partsX_some (partX_byte h1 h2 r), partsX_plain r]; rfl
    · rw [List.takeWhile_cons_of_neg hc, List.dropWhile_cons_of_neg hc]; rfl
theorem rdInv_plain {l0 : List UInt8} {s : RSt} (h : RdInv l0 s) : RdInv l0 ⟨s.rest.dropWhile plnX, s.words ++ s.rest.takeWhile plnX, s.toks⟩ := by
  have hl : (s.rest.takeWhile plnX).length + (s.rest.dropWhile plnX).length = s.rest.length := by rw [← List.length_append, List.takeWhile_append_dropWhile]
  obtain ⟨h1, h2, h3, h4, h5⟩ := h
  rw [partsX_plain s.rest] at h1 h2
  refine ⟨by rw [h1, tokX_txts], h2, by show (s.rest.dropWhile plnX).length ≤ _; omega, ?_, by show s.toks.length + 3 * (s.rest.dropWhile plnX).length ≤ _; omega⟩
  show (s.words ++ s.rest.takeWhile plnX).length + 4 * (s.rest.dropWhile plnX).length ≤ _
  rw [List.length_append]; omega
theorem rdInv_end {l0 : List UInt8} {s : RSt} (h : RdInv l0 s) (hr : s.rest = []) (hl : l0.length ≤ 20000) : readR l0 = (s.toks ++ endW s.words, 0, 0) := by
  obtain ⟨h1, h2, h3, h4, h5⟩ := h
  rw [hr, partsX_nil] at h1 h2
  unfold readR readX
  rw [if_neg (by omega), h2]
  simp only
  rw [h1]; rfl
theorem rdInv_bad {l0 : List UInt8} {s : RSt} (h : RdInv l0 s) (hr : s.rest ≠ []) (hp : partX s.rest = none) (hl : l0.length ≤ 20000) : readR l0 = ([], 8, (l0.length : Int) - (s.rest.length : Int)) := by
  obtain ⟨h1, h2, h3, h4, h5⟩ := h
  rw [partsX_bad hr hp] at h2
  unfold readR readX
  rw [if_neg (by omega), h2]
  simp only
  congr 2
  omega
section
variable {B : Nat} {F : Nat → Prop} {w w1 w2 : World} {b : Nat} {s s' : RSt}
theorem restSz_rgo (k : RGo B F w w1 b s) : restSz w1 b = s.rest.length := by
  obtain ⟨F1, i, _⟩ := k
  unfold restSz
  rw [(rIs_rest i).1]
  exact mk_size _
theorem gEndWords (k : RGo B F w w1 b s) (hl : s.toks.length ≤ 100000) :
    Calls Tryz.prog 32 #[.pointer (some ⟨b, 0, none⟩)] w1 fun e w2 => e = .returned (.tuple #[]) ∧ RGo B F w w2 b ⟨s.rest, [], s.toks ++ endW s.words⟩ := rGo_lift (Q := fun e => e = .returned (.tuple #[])) (fun F1 i _ => rEndWords_to i hl) k
theorem rGo_toks (k : RGo B F w w1 b s) : ∃ a n c, w1.cell? ⟨b, 3, none⟩ = some (.slice a n c) ∧ Hid (n = s.toks.length) ∧ Hid (TokAt w1 (.slice a n c) s.toks) := by
  obtain ⟨F1, ⟨⟨p, v, tv, V, h1, h2, h3, _⟩, _⟩, _⟩ := k
  obtain ⟨a, c, rfl, _⟩ := h2.slice
  exact ⟨a, _, c, h1.cells.2.2.2.1, hid h3.1, hid ⟨V, h2.rAt, h3⟩⟩
theorem rGo_belowW (k : RGo B F w w1 b s) (hF : ∀ x, F x → B ≤ x) : Below B w w1 := by
  obtain ⟨F1, i, G, hB, hF1, c1, g1⟩ := k
  exact c1.below hB hF
/-- A reader that has just been made. -/
theorem rGo_made {s0 : ByteArray} (hG : Gb w.heap.size w) : RGo w.heap.size (fun x => x = w.heap.size) (w.alloc (.cells #[.string s0, .pointer none, .slice none 0 0, .slice none 0 0] 74)) (w.alloc (.cells #[.string s0, .pointer none, .slice none 0 0, .slice none 0 0] 74)) w.heap.size ⟨s0.data.toList, [], []⟩ := by
  have hb : Below w.heap.size w (w.alloc (.cells #[.string s0, .pointer none, .slice none 0 0, .slice none 0 0] 74)) := (Below.refl _ _).alloc (Nat.le_refl _) _
  have ho := own.new w #[.string s0, .pointer none, .slice none 0 0, .slice none 0 0] 74
  refine rGo_start ⟨⟨.pointer none, .slice none 0 0, .slice none 0 0, [], ⟨ho, .inl rfl, World.ownsRow_nil _ _ _ _, by simp [Value.ownBlock]⟩, rOwn_nil _, tksIs_nil _, by simp [Value.ownBlock], fun g hg => by simp [Value.ownBlock] at hg, fun x hx => by simp at hx, rfl, fun g hg => by simp [Value.ownBlock] at hg, fun g hg => by simp [Value.ownBlock] at hg⟩, fun x hx => by subst hx; exact ho.lt⟩ (hG.below hb) hb.size (fun x hx => by omega)
theorem tagX_two {l : List UInt8} {L : List TkX} {r : List UInt8} (h : tagX l = some (L, r)) : L.length ≤ 2 := by
  unfold tagX at h
  split at h
  · cases h
  · obtain ⟨x, _, h2⟩ := Option.map_eq_some_iff.1 h
    cases h2
    split <;> simp
theorem endX_one {l : List UInt8} {L : List TkX} {r : List UInt8} (h : endX l = some (L, r)) : L.length ≤ 2 := by
  unfold endX at h
  split at h
  · cases h
  · split at h
    · cases h; simp
    · cases h
/-- partX, as Read's switch goes through it. -/
theorem partX_cases (l : List UInt8) (h : l ≠ []) :
    (∃ r, past sComment l = some r ∧ partX l = (upTo eComment r).map fun x => (.txt [], x.2)) ∨
    (past sComment l = none ∧ ∃ r, past sInstr l = some r ∧ partX l = (upTo eInstr r).map fun x => (.txt [], x.2)) ∨
    (past sComment l = none ∧ past sInstr l = none ∧ ∃ r, past sDoc l = some r ∧ partX l = (docX r).map fun x => (.txt [], x)) ∨
    (past sComment l = none ∧ past sInstr l = none ∧ past sDoc l = none ∧ ∃ r, past sData l = some r ∧ partX l = (upTo eData r).map fun x => (.txt x.1, x.2)) ∨
    (past sComment l = none ∧ past sInstr l = none ∧ past sDoc l = none ∧ past sData l = none ∧ ∃ r, past sEnd l = some r ∧ partX l = (endX r).map fun x => (.tags x.1, x.2)) ∨
    (past sComment l = none ∧ past sInstr l = none ∧ past sDoc l = none ∧ past sData l = none ∧ past sEnd l = none ∧ ∃ r, past [60] l = some r ∧ partX l = (tagX r).map fun x => (.tags x.1, x.2)) ∨
    (past sComment l = none ∧ past sInstr l = none ∧ past sDoc l = none ∧ past sData l = none ∧ past sEnd l = none ∧ past [60] l = none ∧ ∃ r, past [38] l = some r ∧ partX l = (refX r).map fun x => (.txt x.1, x.2)) ∨
    (past sComment l = none ∧ past sInstr l = none ∧ past sDoc l = none ∧ past sData l = none ∧ past sEnd l = none ∧ past [60] l = none ∧ past [38] l = none ∧ (l.dropWhile plnX).length < l.length) := by
  unfold partX
  cases h1 : past sComment l with
  | some r => left; exact ⟨r, rfl, rfl⟩
  | none =>
  right
  cases h2 : past sInstr l with
  | some r => left; exact ⟨rfl, r, rfl, rfl⟩
  | none =>
  right
  cases h3 : past sDoc l with
  | some r =>
    left
    refine ⟨rfl, rfl, r, rfl, ?_⟩
    simp only [docX]
    cases upTo [62] r with
    | none => rfl
    | some x =>
      simp only [Option.bind_some]
      split <;> rfl
  | none =>
  right
  cases h4 : past sData l with
  | some r => left; exact ⟨rfl, rfl, rfl, r, rfl, rfl⟩
  | none =>
  right
  cases h5 : past sEnd l with
  | some r => left; exact ⟨rfl, rfl, rfl, rfl, r, rfl, rfl⟩
  | none =>
  right
  cases h6 : past [60] l with
  | some r => left; exact ⟨rfl, rfl, rfl, rfl, rfl, r, rfl, rfl⟩
  | none =>
  right
  cases h7 : past [38] l with
  | some r => left; exact ⟨rfl, rfl, rfl, rfl, rfl, rfl, r, rfl, rfl⟩
  | none =>
  right
  refine ⟨rfl, rfl, rfl, rfl, rfl, rfl, rfl, ?_⟩
  cases l with
  | nil => exact absurd rfl h
  | cons c r =>
    have a1 : c ≠ 60 := by rintro rfl; simp [past] at h6
    have a2 : c ≠ 38 := by rintro rfl; simp [past] at h7
    have hp : plnX c = true := by simp [plnX, a1, a2]
    rw [List.dropWhile_cons_of_pos hp]
    have := dropW_len plnX r
    simp; omega
end
end Go.Proofs.YtjoeamlidmmioaaGreatDoor

