/-
  LAYER 11 (xml), THE PROGRAM: what Read's walk needs (written by tools/gen11_read.py).
-/
import Derived.Test.YtbiiaepmemdlgaaDoorXmMq
namespace Go.Proofs.YtbiiaepmemdlgaaDoor
open Go.RowKit
set_option linter.unusedVariables false
set_option maxRecDepth 100000

/-- What Read answers: tokens, error, offset. -/
def readR (l : List UInt8) : List TkX × Int × Int := if 20000 < l.length then ([], 10, 0) else match readX l with
  | (some L, _) => (L, 0, 0)
  | (none, n) => ([], 8, (n : Nat))
def RdPost2 (w : World) (R : List TkX × Int × Int) (e : Ending) (w' : World) : Prop :=
  ∃ a c, e = .returned (.tuple #[.slice a R.1.length c, .int .i64 R.2.1, .int .i64 R.2.2]) ∧ TokAt w' (.slice a R.1.length c) R.1 ∧ Below w.heap.size w w'
/-- How far the loop has come. -/
structure RdInv (l0 : List UInt8) (s : RSt) : Prop where
  toks : tokX [] (partsX l0).1 = s.toks ++ tokX s.words (partsX s.rest).1
  err : (partsX l0).2 = (partsX s.rest).2
  len : s.rest.length ≤ l0.length
  wl : s.words.length + 4 * s.rest.length ≤ 80000
  tl : s.toks.length + 3 * s.rest.length ≤ 60000
theorem rdInv_start {l : List UInt8} (h : l.length ≤ 20000) : RdInv l ⟨l, [], []⟩ := ⟨by simp, rfl, Nat.le_refl _, by simp; omega, by simp; omega⟩
theorem rdInv_txt {l0 r t : List UInt8} {s : RSt} (h : RdInv l0 s) (hp : partX s.rest = some (.txt t, r)) (ht : t.length + 4 * r.length ≤ 4 * s.rest.length) : RdInv l0 ⟨r, s.words ++ t, s.toks⟩ := by
  have hl := partX_lt hp
  obtain ⟨h1, h2, h3, h4, h5⟩ := h
  rw [partsX_some hp] at h1 h2
  exact ⟨h1, h2, by show r.length ≤ _; omega, by simp; omega, by show s.toks.length + 3 * r.length ≤ _; omega⟩
theorem rdInv_tags {l0 r : List UInt8} {L : List TkX} {s : RSt} (h : RdInv l0 s) (hp : partX s.rest = some (.tags L, r)) (hL : L.length ≤ 2) : RdInv l0 ⟨r, [], s.toks ++ endW s.words ++ L⟩ := by
  have hl := partX_lt hp
  obtain ⟨h1, h2, h3, h4, h5⟩ := h
  rw [partsX_some hp] at h1 h2
  have he : (endW s.words).length ≤ 1 := by unfold endW; split <;> simp
  refine ⟨by rw [h1]; show s.toks ++ (endW s.words ++ L ++ tokX [] (partsX r).1) = _; simp, h2, by show r.length ≤ _; omega, by show ([] : List UInt8).length + 4 * r.length ≤ _; simp; omega, ?_⟩
  show (s.toks ++ endW s.words ++ L).length + 3 * r.length ≤ _
  rw [List.length_append, List.length_append]; omega
theorem partsX_plain : ∀ l : List UInt8, partsX l = ((l.takeWhile plnX).map (fun c => .txt [c]) ++ (partsX (l.dropWhile plnX)).1, (partsX (l.dropWhile plnX)).2)
  | [] => rfl
  | c :: r => by
    by_cases hc : plnX c = true
    · have h1 : c ≠ 60 := by rintro rfl; exact absurd hc (by decide)
      have h2 : c ≠ 38 := by rintro rfl; exact absurd hc (by decide)
      rw [List.takeWhile_cons_of_pos hc, List.dropWhile_cons_of_pos hc, partsX_some (partX_byte h1 h2 r), partsX_plain r]; rfl
    · rw [List.takeWhile_cons_of_neg hc, List.dropWhile_cons_of_neg hc]; rfl
theorem rdInv_plain {l0 : List UInt8} {s : RSt} (h : RdInv l0 s) : RdInv l0 ⟨s.rest.dropWhile plnX, s.words ++ s.rest.takeWhile plnX, s.toks⟩ := by
  have hl : (s.rest.takeWhile plnX).length + (s.rest.dropWhile plnX).length = s.rest.length := by rw [← List.length_append, List.takeWhile_append_dropWhile]
  obtain ⟨h1, h2, h3, h4, h5⟩ := h
  rw [partsX_plain s.rest] at h1 h2
  refine ⟨by rw [h1, tokX_txts], h2, by show (s.rest.dropWhile plnX).length ≤ _; omega, ?_, by show s.toks.length + 3 * (s.rest.dropWhile plnX).length ≤ _; omega⟩
  show (s.words ++ s.rest.takeWhile plnX).length + 4 * (s.rest.dropWhile plnX).length ≤ _
  rw [List.length_append]; omega
theorem rdInv_end {l0 : List UInt8} {s : RSt} (h : RdInv l0 s) (hr : s.rest = []) (hl : l0.length ≤ 20000) : readR l0 = (s.toks ++ endW s.words, 0, 0) := by
  obtain ⟨h1, h2, h3, h4, h5⟩ := h
  rw [hr, partsX_nil] at h1 h2
  unfold readR readX
  rw [if_neg (by omega), h2]
  simp only
  rw [h1]; rfl
theorem rdInv_bad {l0 : List UInt8} {s : RSt} (h : RdInv l0 s) (hr : s.rest ≠ []) (hp : partX s.rest = none) (hl : l0.length ≤ 20000) : readR l0 = ([], 8, (l0.length : Int) - (s.rest.length : Int)) := by
  obtain ⟨h1, h2, h3, h4, h5⟩ := h
  rw [partsX_bad hr hp] at h2
  unfold readR readX
  rw [if_neg (by omega), h2]
  simp only
  congr 2
  omega
section
variable {B : Nat} {F : Nat → Prop} {w w1 w2 : World} {b : Nat} {s s' : RSt}
theorem restSz_rgo (k : RGo B F w w1 b s) : restSz w1 b = s.rest.length := by
  obtain ⟨F1, i, _⟩ := k
  unfold restSz
  rw [(rIs_rest i).1]
  exact mk_size _
theorem gEndWords (k : RGo B F w w1 b s) (hl : s.toks.length ≤ 100000) :
    Calls Tryd.prog 26 #[.pointer (some ⟨b, 0, none⟩)] w1 fun e w2 => e = .returned (.tuple #[]) ∧ RGo B F w w2 b ⟨s.rest, [], s.toks ++ endW s.words⟩ := rGo_lift (Q := fun e => e = .returned (.tuple #[])) (fun F1 i _ => rEndWords_to i hl) k
theorem rGo_toks (k : RGo B F w w1 b s) : ∃ a n c, w1.cell? ⟨b, 3, none⟩ = some (.slice a n c) ∧ Hid (n = s.toks.length) ∧ Hid (TokAt w1 (.slice a n c) s.toks) := by
  obtain ⟨F1, ⟨⟨p, v, tv, V, h1, h2, h3, _⟩, _⟩, _⟩ := k
  obtain ⟨a, c, rfl, _⟩ := h2.slice
  exact ⟨a, _, c, h1.cells.2.2.2.1, hid h3.1, hid ⟨V, h2.rAt, h3⟩⟩
theorem rGo_belowW (k : RGo B F w w1 b s) (hF : ∀ x, F x → B ≤ x) : Below B w w1 := by
  obtain ⟨F1, i, G, hB, hF1, c1, g1⟩ := k
  exact c1.below hB hF
/-- A reader that has just been made. -/
theorem rGo_made {s0 : ByteArray} (hG : Gb w.heap.size w) : RGo w.heap.size (fun x => x = w.heap.size) (w.alloc (.cells #[.string s0, .pointer none, .slice none 0 0, .slice none 0 0] 55)) (w.alloc (.cells #[.string s0, .pointer none, .slice none 0 0, .slice none 0 0] 55)) w.heap.size ⟨s0.data.toList, [], []⟩ := by
  have hb : Below w.heap.size w (w.alloc (.cells #[.string s0, .pointer none, .slice none 0 0, .slice none 0 0] 55)) := (Below.refl _ _).alloc (Nat.le_refl _) _
  have ho := own.new w #[.string s0, .pointer none, .slice none 0 0, .slice none 0 0] 55
  refine rGo_start ⟨⟨.pointer none, .slice none 0 0, .slice none 0 0, [], ⟨ho, .inl rfl, World.ownsRow_nil _ _ _ _, by simp [Value.ownBlock]⟩, rOwn_nil _, tksIs_nil _, by simp [Value.ownBlock], fun g hg => by simp [Value.ownBlock] at hg, fun x hx => by simp at hx, rfl, fun g hg => by simp [Value.ownBlock] at hg, fun g hg => by simp [Value.ownBlock] at hg⟩, fun x hx => by subst hx; exact ho.lt⟩ (hG.below hb) hb.size (fun x hx => by omega)
theorem tagX_two {l : List UInt8} {L : List TkX} {r : List UInt8} (h : tagX l = some (L, r)) : L.length ≤ 2 := by
  unfold tagX at h
  split at h
  · cases h
  · obtain ⟨x, _, h2⟩ := Option.map_eq_some_iff.1 h
    cases h2
    split <;> simp
theorem endX_one {l : List UInt8} {L : List TkX} {r : List UInt8} (h : endX l = some (L, r)) : L.length ≤ 2 := by
  unfold endX at h
  split at h
  · cases h
  · split at h
    · cases h; simp
    · cases h
/-- partX, as Read's switch goes through it. -/
theorem partX_cases (l : List UInt8) (h : l ≠ []) :
    (∃ r, past sComment l = some r ∧ partX l = (upTo eComment r).map fun x => (.txt [], x.2)) ∨
    (past sComment l = none ∧ ∃ r, past sInstr l = some r ∧ partX l = (upTo eInstr r).map fun x => (.txt [], x.2)) ∨
    (past sComment l = none ∧ past sInstr l = none ∧ ∃ r, past sDoc l = some r ∧ partX l = (docX r).map fun x => (.txt [], x)) ∨
    (past sComment l = none ∧ past sInstr l = none ∧ past sDoc l = none ∧ ∃ r, past sData l = some r ∧ partX l = (upTo eData r).map fun x => (.txt x.1, x.2)) ∨
    (past sComment l = none ∧ past sInstr l = none ∧ past sDoc l = none ∧ past sData l = none ∧ ∃ r, past sEnd l = some r ∧ partX l = (endX r).map fun x => (.tags x.1, x.2)) ∨
    (past sComment l = none ∧ past sInstr l = none ∧ past sDoc l = none ∧ past sData l = none ∧ past sEnd l = none ∧ ∃ r, past [60] l = some r ∧ partX l = (tagX r).map fun x => (.tags x.1, x.2)) ∨
    (past sComment l = none ∧ past sInstr l = none ∧ past sDoc l = none ∧ past sData l = none ∧ past sEnd l = none ∧ past [60] l = none ∧ ∃ r, past [38] l = some r ∧ partX l = (refX r).map fun x => (.txt x.1, x.2)) ∨
    (past sComment l = none ∧ past sInstr l = none ∧ past sDoc l = none ∧ past sData l = none ∧ past sEnd l = none ∧ past [60] l = none ∧ past [38] l = none ∧ (l.dropWhile plnX).length < l.length) := by
  unfold partX
  cases h1 : past sComment l with
  | some r => left; exact ⟨r, rfl, rfl⟩
  | none =>
  right
  cases h2 : past sInstr l with
  | some r => left; exact ⟨rfl, r, rfl, rfl⟩
  | none =>
  right
  cases h3 : past sDoc l with
  | some r =>
    left
    refine ⟨rfl, rfl, r, rfl, ?_⟩
    simp only [docX]
    cases upTo [62] r with
    | none => rfl
    | some x =>
      simp only [Option.bind_some]
      split <;> rfl
  | none =>
  right
  cases h4 : past sData l with
  | some r => left; exact ⟨rfl, rfl, rfl, r, rfl, rfl⟩
  | none =>
  right
  cases h5 : past sEnd l with
  | some r => left; exact ⟨rfl, rfl, rfl, rfl, r, rfl, rfl⟩
  | none =>
  right
  cases h6 : past [60] l with
  | some r => left; exact ⟨rfl, rfl, rfl, rfl, rfl, r, rfl, rfl⟩
  | none =>
  right
  cases h7 : past [38] l with
  | some r => left; exact ⟨rfl, rfl, rfl, rfl, rfl, rfl, r, rfl, rfl⟩
  | none =>
  right
  refine ⟨rfl, rfl, rfl, rfl, rfl, rfl, rfl, ?_⟩
  cases l with
  | nil => exact absurd rfl h
  | cons c r =>
    have a1 : c ≠ 60 := by rintro rfl; simp [past] at h6
    have a2 : c ≠ 38 := by rintro rfl; simp [past] at h7
    have hp : plnX c = true := by simp [plnX, a1, a2]
    rw [List.dropWhile_cons_of_pos hp]
    have := dropW_len plnX r
    simp; omega
end
end Go.Proofs.YtbiiaepmemdlgaaDoor
