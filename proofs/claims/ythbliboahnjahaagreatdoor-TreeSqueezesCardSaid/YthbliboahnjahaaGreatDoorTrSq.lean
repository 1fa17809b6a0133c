/-
  LAYER 12 (tree), plain mathematics: what is squeezed, byte by byte; and by runes, as strings.FieldsFunc does it.
-/
import Derived.Test.YthbliboahnjahaaGreatDoorXmMath
import Derived.Lib.FieldsP
namespace Go.Proofs.YthbliboahnjahaaGreatDoor
set_option linter.unusedVariables false
set_option maxRecDepth 100000

/-- some: there is output; gap: a blank is to come before the next word. -/
def sqG : Bool → Bool → List UInt8 → List UInt8
  | _, _, [] => []
  | o, g, c :: r => if spcX c then sqG o o r else if g then 32 :: c :: sqG true false r else c :: sqG true false r
def sqX (s : List UInt8) : List UInt8 := sqG false false s
theorem sqG_space {o g : Bool} {c : UInt8} {r : List UInt8} (h : spcX c = true) : sqG o g (c :: r) = sqG o o r := by
  show (if spcX c = true then sqG o o r else _) = _
  rw [if_pos h]
theorem sqG_gap {o : Bool} {c : UInt8} {r : List UInt8} (h : spcX c = false) : sqG o true (c :: r) = 32 :: c :: sqG true false r := by
  show (if spcX c = true then _ else 32 :: c :: sqG true false r) = _
  rw [if_neg (by rw [h]; decide)]
theorem sqG_word {o : Bool} {c : UInt8} {r : List UInt8} (h : spcX c = false) : sqG o false (c :: r) = c :: sqG true false r := by
  show (if spcX c = true then _ else _) = _
  rw [if_neg (by rw [h]; decide)]; rfl
theorem sq_again1 : ∀ s, sqG true false (sqG true false s) = sqG true false s ∧ sqG true false (sqG true true s) = sqG true true s
  | [] => ⟨rfl, rfl⟩
  | c :: r => by
    obtain ⟨h1, h2⟩ := sq_again1 r
    by_cases hc : spcX c = true
    · rw [sqG_space hc, sqG_space hc]
      exact ⟨h2, h2⟩
    · have hc' : spcX c = false := by simpa using hc
      rw [sqG_word hc', sqG_gap hc', sqG_word hc', h1]
      refine ⟨rfl, ?_⟩
      rw [sqG_space (c := 32) (by decide), sqG_gap hc', h1]
theorem sq_again : ∀ s, sqX (sqX s) = sqX s
  | [] => rfl
  | c :: r => by
    unfold sqX
    by_cases hc : spcX c = true
    · rw [sqG_space hc]
      exact sq_again r
    · have hc' : spcX c = false := by simpa using hc
      rw [sqG_word hc', sqG_word hc', (sq_again1 r).1]
theorem sq_head : ∀ (s : List UInt8) (c : UInt8), (sqX s)[0]? = some c → c ≠ 32
  | [], c, h => by simp [sqX, sqG] at h
  | d :: r, c, h => by
    unfold sqX at h
    by_cases hc : spcX d = true
    · rw [sqG_space hc] at h
      exact sq_head r c h
    · have hc' : spcX d = false := by simpa using hc
      rw [sqG_word hc'] at h
      simp at h
      subst h
      rintro rfl
      exact absurd hc' (by decide)
theorem sq_last1 : ∀ (s : List UInt8) (c : UInt8) (o g : Bool), (sqG o g s).getLast? = some c → c ≠ 32
  | [], c, o, g, h => by simp [sqG] at h
  | d :: r, c, o, g, h => by
    by_cases hc : spcX d = true
    · rw [sqG_space hc] at h
      exact sq_last1 r c _ _ h
    · have hc' : spcX d = false := by simpa using hc
      have h2 : (d :: sqG true false r).getLast? = some c := by
        cases g with
        | true => rw [sqG_gap hc', List.getLast?_cons_cons] at h; exact h
        | false => rw [sqG_word hc'] at h; exact h
      cases hr : sqG true false r with
      | nil =>
        rw [hr] at h2
        simp at h2
        subst h2
        rintro rfl
        exact absurd hc' (by decide)
      | cons x y =>
        rw [hr, List.getLast?_cons_cons, ← hr] at h2
        exact sq_last1 r c _ _ h2
theorem sqG_len : ∀ (s : List UInt8) (o g : Bool), (sqG o g s).length ≤ 2 * s.length
  | [], o, g => by simp [sqG]
  | c :: r, o, g => by
    by_cases hc : spcX c = true
    · rw [sqG_space hc]; have := sqG_len r o o; simp; omega
    · have hc' : spcX c = false := by simpa using hc
      cases g with
      | true => rw [sqG_gap hc']; have := sqG_len r true false; simp; omega
      | false => rw [sqG_word hc']; have := sqG_len r true false; simp; omega

/-! ### words -/
def fldX : List UInt8 → List UInt8 → List (List UInt8)
  | cur, [] => if cur = [] then [] else [cur]
  | cur, c :: r => if spcX c then (if cur = [] then fldX [] r else cur :: fldX [] r) else fldX (cur ++ [c]) r
def joinX (l : List (List UInt8)) : List UInt8 := ([32] : List UInt8).intercalate l
theorem joinX_cons {a : List UInt8} {l : List (List UInt8)} (h : l ≠ []) : joinX (a :: l) = a ++ 32 :: joinX l := by
  cases l with
  | nil => exact absurd rfl h
  | cons b r => simp [joinX, List.intercalate, List.intersperse]
theorem joinX_one (a : List UInt8) : joinX [a] = a := by simp [joinX, List.intercalate, List.intersperse]
theorem fld_sq : ∀ (s cur : List UInt8), (cur = [] → joinX (fldX [] s) = sqG false false s) ∧ (cur ≠ [] → joinX (fldX cur s) = cur ++ sqG true false s ∧ fldX cur s ≠ []) ∧ (cur = [] → (fldX [] s = [] → sqG true true s = []) ∧ (fldX [] s ≠ [] → sqG true true s = 32 :: joinX (fldX [] s)))
  | [], cur => by
    refine ⟨fun _ => rfl, fun h => ?_, fun _ => ⟨fun _ => rfl, fun h => absurd rfl h⟩⟩
    unfold fldX
    rw [if_neg h, joinX_one]
    simp [sqG]
  | c :: r, cur => by
    by_cases hc : spcX c = true
    · have e : fldX [] (c :: r) = fldX [] r := by
        show (if spcX c then (if ([] : List UInt8) = [] then fldX [] r else _) else _) = _
        rw [if_pos hc, if_pos rfl]
      rw [e, sqG_space hc, sqG_space hc, sqG_space hc]
      obtain ⟨h1, _, h3⟩ := fld_sq r []
      refine ⟨fun _ => h1 rfl, fun h => ?_, fun _ => h3 rfl⟩
      have e2 : fldX cur (c :: r) = cur :: fldX [] r := by
        show (if spcX c then (if cur = [] then fldX [] r else _) else _) = _
        rw [if_pos hc, if_neg h]
      rw [e2]
      refine ⟨?_, by simp⟩
      by_cases hf : fldX [] r = []
      · rw [hf, joinX_one, (h3 rfl).1 hf, List.append_nil]
      · rw [joinX_cons hf, (h3 rfl).2 hf]
    · have hc' : spcX c = false := by simpa using hc
      have e : ∀ cu, fldX cu (c :: r) = fldX (cu ++ [c]) r := fun cu => by
        show (if spcX c then _ else _) = _
        rw [if_neg hc]
      rw [e, e, sqG_word hc', sqG_word hc', sqG_gap hc']
      obtain ⟨_, h2, _⟩ := fld_sq r ([] ++ [c])
      obtain ⟨g1, g2⟩ := h2 (by simp)
      refine ⟨fun _ => by rw [g1]; rfl, fun h => ?_, fun _ => ⟨fun h => absurd h g2, fun _ => by rw [g1]; rfl⟩⟩
      obtain ⟨k1, k2⟩ := (fld_sq r (cur ++ [c])).2.1 (by simp)
      exact ⟨by rw [k1]; simp, k2⟩
theorem fld_join (s : List UInt8) : joinX (fldX [] s) = sqX s := (fld_sq s []).1 rfl

/-! ### by runes -/
/-- The runes that part words. -/
def gapR (r : Nat) : Bool := r == 32 || r == 9 || r == 10 || r == 13
theorem dec_ascii {n b0 b1 b2 b3 : Nat} (h : b0 < 128) : Lib.decodeN n b0 b1 b2 b3 = (b0, 1) := by unfold Lib.decodeN; rw [if_pos h]
set_option maxHeartbeats 2000000 in
theorem dec_more {n b0 b1 b2 b3 : Nat} (h : 128 ≤ b0) : 128 ≤ (Lib.decodeN n b0 b1 b2 b3).1 ∧ 1 ≤ (Lib.decodeN n b0 b1 b2 b3).2 ∧ (2 ≤ (Lib.decodeN n b0 b1 b2 b3).2 → 128 ≤ b1) ∧ (3 ≤ (Lib.decodeN n b0 b1 b2 b3).2 → 128 ≤ b2) ∧ (4 ≤ (Lib.decodeN n b0 b1 b2 b3).2 → 128 ≤ b3) ∧ (Lib.decodeN n b0 b1 b2 b3).2 ≤ 4 := by
  unfold Lib.decodeN
  repeat' split
  all_goals (refine ⟨?_, ?_, ?_, ?_, ?_, ?_⟩ <;> simp only <;> omega)
/-- Bytes that are no blank join the word. -/
theorem fldX_skip : ∀ (k : Nat) (cur s : List UInt8), k ≤ s.length → (∀ i c, i < k → s[i]? = some c → spcX c = false) → fldX cur s = fldX (cur ++ s.take k) (s.drop k)
  | 0, cur, s, _, _ => by simp
  | k + 1, cur, [], hl, _ => by simp at hl
  | k + 1, cur, c :: r, hl, h => by
    have hc := h 0 c (by omega) rfl
    show (if spcX c then _ else _) = _
    rw [if_neg (by rw [hc]; decide), fldX_skip k (cur ++ [c]) r (by simpa using hl) (fun i d hi hd => h (i + 1) d (by omega) hd)]
    simp
theorem spc_big {c : UInt8} (h : 128 ≤ c.toNat) : spcX c = false := by
  have hh : ∀ d : UInt8, d.toNat < 128 → c ≠ d := fun d hd e => by subst e; omega
  simp [spcX, hh 32 (by decide), hh 9 (by decide), hh 10 (by decide), hh 13 (by decide)]
theorem gap_byte (c : UInt8) : gapR c.toNat = spcX c := by
  have e : ∀ d : UInt8, (c.toNat == d.toNat) = (c == d) := fun d => by
    by_cases h : c = d
    · subst h; simp
    · rw [beq_false_of_ne h, beq_false_of_ne (fun q => h (UInt8.toNat_inj.1 q))]
  unfold gapR spcX
  rw [← e 32, ← e 9, ← e 10, ← e 13]; rfl
theorem gap_byte_nat {r : Nat} (h : r < 128) : spcX r.toUInt8 = gapR r := by
  rw [← gap_byte]
  congr 1
  show (UInt8.ofNat r).toNat = r
  rw [UInt8.toNat_ofNat']; omega
theorem get_at {s : ByteArray} {i : Nat} {c : UInt8} (h : s.data.toList[i]? = some c) : s.get! i = c := by
  have hl := (List.getElem?_eq_some_iff.1 h).1
  have : s.get! i = s.data.toList.getD i 0 := by
    show s.data[i]! = _
    simp [List.getD, getElem!_def]
    cases s.data[i]? <;> rfl
  rw [this, List.getD, h]
  rfl
theorem fldX_nil (cur : List UInt8) : fldX cur [] = if cur = [] then [] else [cur] := rfl
theorem tr_spans (s : ByteArray) : ∀ (f pos : Nat) (st : Option Nat) (acc : List (Nat × Nat)), s.size ≤ pos + f → pos ≤ s.size → (∀ a, st = some a → a < pos) →
    acc.map (fun p => Lib.pieceU s.data.toList p.1 p.2) ++ fldX (Lib.openPiece s.data.toList st pos) (s.data.toList.drop pos) = (Lib.closeSpans s (Lib.spansFromP gapR s f pos st acc)).map (fun p => Lib.pieceU s.data.toList p.1 p.2)
  | 0, pos, st, acc, h, hp, hst => by
    obtain rfl : pos = s.size := by omega
    have hd : s.data.toList.drop s.size = [] := List.drop_eq_nil_of_le (by rw [← Lib.size_eq]; exact Nat.le_refl _)
    rw [hd, fldX_nil]
    cases st with
    | none => simp [Lib.spansFromP, Lib.closeSpans, Lib.openPiece]
    | some a =>
      have := Lib.pieceU_ne s.data.toList a s.size (hst a rfl) (by rw [← Lib.size_eq]; exact Nat.le_refl _)
      simp [Lib.spansFromP, Lib.closeSpans, Lib.openPiece, this]
  | f + 1, pos, st, acc, h, hp, hst => by
    by_cases hlt : pos < s.size
    · have hlen : s.data.toList.length = s.size := (Lib.size_eq s).symm
      obtain ⟨c, hc⟩ : ∃ c, s.data.toList[pos]? = some c := ⟨_, List.getElem?_eq_getElem (by omega)⟩
      have hg := get_at hc
      have hw := Lib.width_pos s pos
      have hwn : pos + (Utf8.decode s pos).2 ≤ s.size := by
        have := Lib.decodeN_le_n' (s.size - pos) (s.get! pos).toNat (s.get! (pos + 1)).toNat (s.get! (pos + 2)).toNat (s.get! (pos + 3)).toNat (by omega)
        rw [← Lib.decode_at] at this
        omega
      have hdr : s.data.toList.drop pos = c :: s.data.toList.drop (pos + 1) := by
        rw [List.drop_eq_getElem_cons (by omega)]
        rw [List.getElem?_eq_getElem (by omega)] at hc
        cases hc; rfl
      by_cases h128 : c.toNat < 128
      · have hd : Utf8.decode s pos = (c.toNat, 1) := by rw [Lib.decode_at, hg, dec_ascii h128]
        simp only [Lib.spansFromP, if_pos hlt, hd, gap_byte]
        rw [hdr]
        cases hsp : spcX c with
        | true =>
          simp only [if_true]
          cases st with
          | none =>
            have ih := tr_spans s f (pos + 1) none acc (by omega) (by omega) (fun a h => by cases h)
            rw [← ih]
            show _ ++ (if spcX c then _ else _) = _
            rw [if_pos hsp]
            rfl
          | some a =>
            have hpn := Lib.pieceU_ne s.data.toList a pos (hst a rfl) (by rw [← Lib.size_eq]; omega)
            have ih := tr_spans s f (pos + 1) none (acc ++ [(a, pos)]) (by omega) (by omega) (fun a h => by cases h)
            rw [← ih]
            show _ ++ (if spcX c then (if Lib.pieceU s.data.toList a pos = [] then _ else _) else _) = _
            rw [if_pos hsp, if_neg hpn]
            simp [Lib.openPiece]
        | false =>
          simp only [Bool.false_eq_true, if_false]
          cases st with
          | none =>
            have ih := tr_spans s f (pos + 1) (some pos) acc (by omega) (by omega) (fun a h => by cases h; omega)
            have e : Lib.pieceU s.data.toList pos (pos + 1) = [c] := by
              unfold Lib.pieceU
              rw [hdr, Nat.add_sub_cancel_left]; rfl
            rw [← ih]
            show _ ++ (if spcX c then _ else _) = _
            rw [if_neg (by rw [hsp]; decide)]
            simp [Lib.openPiece, e]
          | some a =>
            have ih := tr_spans s f (pos + 1) (some a) acc (by omega) (by omega) (fun b h => by cases h; have := hst a rfl; omega)
            have e := Lib.pieceU_grow s.data.toList a pos 1 (Nat.le_of_lt (hst a rfl))
            rw [← ih]
            show _ ++ (if spcX c then _ else _) = _
            rw [if_neg (by rw [hsp]; decide)]
            simp only [Lib.openPiece]
            rw [← e, hdr]
            rfl
      · have hb := dec_more (n := s.size - pos) (b0 := (s.get! pos).toNat) (b1 := (s.get! (pos + 1)).toNat) (b2 := (s.get! (pos + 2)).toNat) (b3 := (s.get! (pos + 3)).toNat) (by rw [hg]; omega)
        rw [← Lib.decode_at] at hb
        obtain ⟨h1, h2, h3, h4, h5, h6⟩ := hb
        generalize hR : (Utf8.decode s pos).1 = R at *
        generalize hK : (Utf8.decode s pos).2 = K at *
        have hgap : gapR R = false := by simp [gapR]; omega
        have hskip : ∀ cur, fldX cur (s.data.toList.drop pos) = fldX (cur ++ (s.data.toList.drop pos).take K) (s.data.toList.drop (pos + K)) := fun cur => by
          rw [fldX_skip K cur _ (by rw [List.length_drop]; omega) (fun i d hi hd => spc_big ?_), List.drop_drop]
          rw [List.getElem?_drop] at hd
          have hgd := get_at hd
          have : i = 0 ∨ i = 1 ∨ i = 2 ∨ i = 3 := by omega
          rcases this with rfl | rfl | rfl | rfl
          · rw [Nat.add_zero] at hgd
            rw [← hgd, hg]; omega
          · rw [← hgd]; exact h3 (by omega)
          · rw [← hgd]; exact h4 (by omega)
          · rw [← hgd]; exact h5 (by omega)
        simp only [Lib.spansFromP, if_pos hlt, hR, hK, hgap, Bool.false_eq_true, if_false]
        rw [hskip]
        cases st with
        | none =>
          have ih := tr_spans s f (pos + K) (some pos) acc (by omega) hwn (fun a h => by cases h; omega)
          have e : ([] : List UInt8) ++ (s.data.toList.drop pos).take K = Lib.pieceU s.data.toList pos (pos + K) := by
            unfold Lib.pieceU
            rw [List.nil_append, Nat.add_sub_cancel_left]
          simp only [Lib.openPiece] at ih ⊢
          rw [e]
          exact ih
        | some a =>
          have ih := tr_spans s f (pos + K) (some a) acc (by omega) hwn (fun b h => by cases h; have := hst a rfl; omega)
          simp only [Lib.openPiece] at ih ⊢
          rw [Lib.pieceU_grow _ _ _ _ (Nat.le_of_lt (hst a rfl))]
          exact ih
    · obtain rfl : pos = s.size := by omega
      have hd : s.data.toList.drop s.size = [] := List.drop_eq_nil_of_le (by rw [← Lib.size_eq]; exact Nat.le_refl _)
      rw [hd, fldX_nil, Lib.spansFromP_end gapR s _ _ _ _ hlt]
      cases st with
      | none => simp [Lib.closeSpans, Lib.openPiece]
      | some a =>
        have := Lib.pieceU_ne s.data.toList a s.size (hst a rfl) (by rw [← Lib.size_eq]; exact Nat.le_refl _)
        simp [Lib.closeSpans, Lib.openPiece, this]
/-- What FieldsFunc gives, as lists of bytes. -/
theorem fields_eq (s : ByteArray) : (Lib.goFieldsP gapR s).map (·.data.toList) = fldX [] s.data.toList := by
  have h := tr_spans s s.size 0 none [] (by omega) (Nat.zero_le _) (fun a h => by cases h)
  simp only [List.map_nil, List.nil_append, Lib.openPiece, List.drop_zero] at h
  rw [h]
  unfold Lib.goFieldsP Lib.spansOfP
  rw [List.map_map]
  congr 1
  funext p
  simp [Lib.pieceU]
end Go.Proofs.YthbliboahnjahaaGreatDoor
