/-
  LAYER 11 (xml), plain mathematics: the parts of a document, its tokens, what is written.
-/
namespace Go.Proofs.YtjoeamlidmmioaaGreatDoor
set_option linter.unusedVariables false
set_option maxRecDepth 100000

/-! ### a loop over a list that gets shorter -/
def fixL {β : Type} (G : (List UInt8 → β) → List UInt8 → β) (d : β) : Nat → List UInt8 → β
  | 0, _ => d
  | n + 1, s => G (fixL G d n) s
def runL {β : Type} (G : (List UInt8 → β) → List UInt8 → β) (d : β) (s : List UInt8) : β := fixL G d (s.length + 1) s
def Local {β : Type} (G : (List UInt8 → β) → List UInt8 → β) : Prop := ∀ (f g : List UInt8 → β) s, (∀ r, r.length < s.length → f r = g r) → G f s = G g s
theorem fixL_eq {β : Type} {G : (List UInt8 → β) → List UInt8 → β} {d : β} (hG : Local G) : ∀ (n m : Nat) (s : List UInt8), s.length < n → s.length < m → fixL G d n s = fixL G d m s
  | 0, _, _, h, _ => by omega
  | _ + 1, 0, _, _, h => by omega
  | n + 1, m + 1, s, h1, h2 => hG _ _ s fun r hr => fixL_eq hG n m r (by omega) (by omega)
theorem runL_eq {β : Type} {G : (List UInt8 → β) → List UInt8 → β} {d : β} (hG : Local G) (s : List UInt8) : runL G d s = G (runL G d) s :=
  hG _ _ s fun r hr => fixL_eq hG _ _ r hr (by omega)

/-! ### bytes -/
def spcX (c : UInt8) : Bool := c == 32 || c == 9 || c == 10 || c == 13
def begX (c : UInt8) : Bool := (decide (65 ≤ c) && decide (c ≤ 90)) || (decide (97 ≤ c) && decide (c ≤ 122)) || c == 95 || c == 58 || decide (128 ≤ c)
def digX (c : UInt8) : Bool := decide (48 ≤ c) && decide (c ≤ 57)
def conX (c : UInt8) : Bool := digX c || c == 46 || c == 45
def nmc (c : UInt8) : Bool := begX c || conX c
structure AtX where
  n : List UInt8
  v : List UInt8
deriving DecidableEq
structure TkX where
  k : Int
  n : List UInt8
  as : List AtX
  t : List UInt8
deriving DecidableEq
def nameX : List UInt8 → List UInt8 × List UInt8
  | [] => ([], [])
  | c :: r => if begX c then (c :: r.takeWhile nmc, r.dropWhile nmc) else ([], c :: r)
def upTo (e : List UInt8) : List UInt8 → Option (List UInt8 × List UInt8)
  | [] => none
  | c :: r => if e.isPrefixOf (c :: r) then some ([], (c :: r).drop e.length) else (upTo e r).map fun x => (c :: x.1, x.2)

/-! ### references -/
def sixX (c : UInt8) : Option Nat := if digX c then some (c.toNat - 48) else if decide (97 ≤ c) && decide (c ≤ 102) then some (c.toNat - 87) else if decide (65 ≤ c) && decide (c ≤ 70) then some (c.toNat - 55) else none
/-- One more digit of a base. -/
def digitX (b : Nat) (v : Option Nat) (c : UInt8) : Option Nat := v.bind fun v => (sixX c).bind fun d => if d < b then some (b * v + d) else none
def digsX (b : Nat) (s : List UInt8) : Option Nat := if s = [] then none else s.foldl (digitX b) (some 0)
def runeX (n : Nat) : Bool := decide (1 ≤ n) && decide (n ≤ 0x10FFFF) && !(decide (0xD800 ≤ n) && decide (n ≤ 0xDFFF))
def utfX (n : Nat) : List UInt8 :=
  if n < 0x80 then [n.toUInt8]
  else if n < 0x800 then [(0xC0 + n / 64).toUInt8, (0x80 + n % 64).toUInt8]
  else if n < 0x10000 then [(0xE0 + n / 4096).toUInt8, (0x80 + n / 64 % 64).toUInt8, (0x80 + n % 64).toUInt8]
  else [(0xF0 + n / 262144).toUInt8, (0x80 + n / 4096 % 64).toUInt8, (0x80 + n / 64 % 64).toUInt8, (0x80 + n % 64).toUInt8]
/-- The character of a number that digits of a base say, at most m of them. -/
def charX (b m : Nat) (d : List UInt8) : Option (List UInt8) := if m < d.length then none else (digsX b d).bind fun n => if runeX n then some (utfX n) else none
/-- What stands behind '#'. -/
def numbX : List UInt8 → Option (List UInt8)
  | 120 :: h => charX 16 6 h
  | d => charX 10 7 d
/-- What stands between & and ;. -/
def denX (s : List UInt8) : Option (List UInt8) :=
  if s = [97, 109, 112] then some [38] else if s = [108, 116] then some [60] else if s = [103, 116] then some [62] else if s = [113, 117, 111, 116] then some [34] else if s = [97, 112, 111, 115] then some [39]
  else match s with
  | 35 :: d => numbX d
  | _ => none
/-- What stands behind &. -/
def refX (s : List UInt8) : Option (List UInt8 × List UInt8) := (upTo [59] s).bind fun x => (denX x.1).map fun t => (t, x.2)
/-- A text with references: what it says. -/
def saidG (f : List UInt8 → Option (List UInt8)) : List UInt8 → Option (List UInt8)
  | [] => some []
  | c :: r => if c = 38 then (refX r).bind fun x => (f x.2).map (x.1 ++ ·) else (f r).map (c :: ·)
def saidX (s : List UInt8) : Option (List UInt8) := runL saidG none s

/-! ### tags -/
def attrX (s : List UInt8) : Option (AtX × List UInt8) :=
  if (nameX s).1 = [] then none else
  match (nameX s).2.dropWhile spcX with
  | 61 :: r2 => match r2.dropWhile spcX with
    | q :: r4 => if q = 34 ∨ q = 39 then (upTo [q] r4).bind fun x => if (60 : UInt8) ∈ x.1 then none else (saidX x.1).map fun v => (⟨(nameX s).1, v⟩, x.2) else none
    | [] => none
  | _ => none
def hasX (l : List AtX) (n : List UInt8) : Bool := l.any fun a => a.n == n
/-- Behind the name of an open tag: its attributes, whether it closes at once, the rest. -/
def attrsG (f : List UInt8 → List AtX → Option (List AtX × Bool × List UInt8)) (s : List UInt8) (l : List AtX) : Option (List AtX × Bool × List UInt8) :=
  match s.dropWhile spcX with
  | 62 :: r => some (l, false, r)
  | 47 :: 62 :: r => some (l, true, r)
  | r => (attrX r).bind fun x => if r.length < s.length ∧ hasX l x.1.n = false then f x.2 (l ++ [x.1]) else none
def attrsX (s : List UInt8) (l : List AtX) : Option (List AtX × Bool × List UInt8) := runL (fun f s l => attrsG f s l) (fun _ => none) s l
def openT (n : List UInt8) (l : List AtX) : TkX := ⟨1, n, l, []⟩
def closeT (n : List UInt8) : TkX := ⟨2, n, [], []⟩
def wordsT (t : List UInt8) : TkX := ⟨3, [], [], t⟩
def tagX (s : List UInt8) : Option (List TkX × List UInt8) :=
  if (nameX s).1 = [] then none else (attrsX (nameX s).2 []).map fun x => (openT (nameX s).1 x.1 :: (if x.2.1 then [closeT (nameX s).1] else []), x.2.2)
def endX (s : List UInt8) : Option (List TkX × List UInt8) :=
  if (nameX s).1 = [] then none else match (nameX s).2.dropWhile spcX with
  | 62 :: r => some ([closeT (nameX s).1], r)
  | _ => none

/-! ### parts -/
inductive PtX where
  | txt (l : List UInt8)
  | tags (l : List TkX)
def past (p s : List UInt8) : Option (List UInt8) := if p.isPrefixOf s then some (s.drop p.length) else none
def sComment : List UInt8 := [60, 33, 45, 45]
def eComment : List UInt8 := [45, 45, 62]
def sInstr : List UInt8 := [60, 63]
def eInstr : List UInt8 := [63, 62]
def sDoc : List UInt8 := [60, 33, 68, 79, 67, 84, 89, 80, 69]
def sData : List UInt8 := [60, 33, 91, 67, 68, 65, 84, 65, 91]
def eData : List UInt8 := [93, 93, 62]
def sEnd : List UInt8 := [60, 47]
def partX (s : List UInt8) : Option (PtX × List UInt8) :=
  match past sComment s with
  | some r => (upTo eComment r).map fun x => (.txt [], x.2)
  | none => match past sInstr s with
  | some r => (upTo eInstr r).map fun x => (.txt [], x.2)
  | none => match past sDoc s with
  | some r => (upTo [62] r).bind fun x => if (91 : UInt8) ∈ x.1 ∨ (60 : UInt8) ∈ x.1 then none else some (.txt [], x.2)
  | none => match past sData s with
  | some r => (upTo eData r).map fun x => (.txt x.1, x.2)
  | none => match past sEnd s with
  | some r => (endX r).map fun x => (.tags x.1, x.2)
  | none => match past [60] s with
  | some r => (tagX r).map fun x => (.tags x.1, x.2)
  | none => match past [38] s with
  | some r => (refX r).map fun x => (.txt x.1, x.2)
  | none => match s with
  | [] => none
  | c :: r => some (.txt [c], r)
def partsG (f : List UInt8 → List PtX × Option (List UInt8)) : List UInt8 → List PtX × Option (List UInt8)
  | [] => ([], none)
  | c :: r => match partX (c :: r) with
    | none => ([], some (c :: r))
    | some x => (x.1 :: (f x.2).1, (f x.2).2)
/-- The parts, and what stands where the first error begins. -/
def partsX (s : List UInt8) : List PtX × Option (List UInt8) := runL partsG ([], none) s
def endW (w : List UInt8) : List TkX := if w = [] then [] else [wordsT w]
def tokX : List UInt8 → List PtX → List TkX
  | w, [] => endW w
  | w, .txt t :: ps => tokX (w ++ t) ps
  | w, .tags l :: ps => endW w ++ l ++ tokX [] ps
/-- Read: tokens, error (0, 1: form), offset. -/
def readX (s : List UInt8) : Option (List TkX) × Nat := match (partsX s).2 with
  | none => (some (tokX [] (partsX s).1), 0)
  | some r => (none, s.length - r.length)
/-! ### writing -/
def escB (c : UInt8) : List UInt8 := if c = 38 then [38, 97, 109, 112, 59] else if c = 60 then [38, 108, 116, 59] else if c = 62 then [38, 103, 116, 59] else if c = 34 then [38, 113, 117, 111, 116, 59] else if c = 39 then [38, 97, 112, 111, 115, 59] else [c]
def escX (s : List UInt8) : List UInt8 := s.flatMap escB
def wAt (a : AtX) : List UInt8 := 32 :: a.n ++ [61, 34] ++ escX a.v ++ [34]
def wTk (t : TkX) : List UInt8 := if t.k = 1 then 60 :: t.n ++ t.as.flatMap wAt ++ [62] else if t.k = 2 then [60, 47] ++ t.n ++ [62] else if t.k = 3 then escX t.t else []
def writeX (l : List TkX) : List UInt8 := l.flatMap wTk

/-! ### what gets shorter -/
theorem upTo_lt {e : List UInt8} : ∀ {s : List UInt8} {a b : List UInt8}, upTo e s = some (a, b) → a.length + b.length + e.length = s.length ∧ s = a ++ e ++ b
  | [], _, _, h => by simp [upTo] at h
  | c :: r, a, b, h => by
    unfold upTo at h
    by_cases hp : e.isPrefixOf (c :: r) = true
    · rw [if_pos hp] at h
      simp only [Option.some.injEq, Prod.mk.injEq] at h
      obtain ⟨rfl, rfl⟩ := h
      obtain ⟨t, ht⟩ := List.isPrefixOf_iff_prefix.1 hp
      rw [← ht, List.drop_left]
      exact ⟨by simp; omega, by simp⟩
    · rw [if_neg hp] at h
      obtain ⟨⟨a', b'⟩, h1, h2⟩ := Option.map_eq_some_iff.1 h
      simp only [Prod.mk.injEq] at h2
      obtain ⟨rfl, rfl⟩ := h2
      obtain ⟨h3, h4⟩ := upTo_lt h1
      exact ⟨by simp; omega, by rw [h4]; simp⟩
theorem nameX_eq (s : List UInt8) : (nameX s).1 ++ (nameX s).2 = s := by
  cases s with
  | nil => rfl
  | cons c r =>
    unfold nameX
    by_cases h : begX c
    · simp [h, List.takeWhile_append_dropWhile]
    · simp [h]
theorem nameX_len (s : List UInt8) : (nameX s).1.length + (nameX s).2.length = s.length := by rw [← List.length_append, nameX_eq]
theorem nameX_ne {s : List UInt8} (h : (nameX s).1 ≠ []) : (nameX s).2.length < s.length := by
  have := nameX_len s
  have : (nameX s).1.length ≠ 0 := by simpa using h
  omega
theorem dropW_len (p : UInt8 → Bool) (s : List UInt8) : (s.dropWhile p).length ≤ s.length := (List.dropWhile_suffix p).length_le
theorem refX_lt {s t r : List UInt8} (h : refX s = some (t, r)) : r.length < s.length := by
  unfold refX at h
  obtain ⟨⟨a, b⟩, h1, h2⟩ := Option.bind_eq_some_iff.1 h
  obtain ⟨t', h3, h4⟩ := Option.map_eq_some_iff.1 h2
  simp only [Prod.mk.injEq] at h4
  obtain ⟨rfl, rfl⟩ := h4
  have := (upTo_lt h1).1
  simp at this
  omega
theorem saidG_local : Local saidG := by
  intro f g s h
  cases s with
  | nil => rfl
  | cons c r =>
    simp only [saidG]
    by_cases hc : c = 38
    · rw [if_pos hc, if_pos hc]
      cases hr : refX r with
      | none => rfl
      | some x =>
        obtain ⟨t, r'⟩ := x
        have := refX_lt hr
        simp only [Option.bind_some]
        rw [h r' (by simp; omega)]
    · rw [if_neg hc, if_neg hc, h r (by simp)]
theorem saidX_nil : saidX [] = some [] := rfl
theorem saidX_cons (c : UInt8) (r : List UInt8) : saidX (c :: r) = if c = 38 then (refX r).bind fun x => (saidX x.2).map (x.1 ++ ·) else (saidX r).map (c :: ·) := by
  unfold saidX
  rw [runL_eq saidG_local]
  rfl
theorem attrX_lt {s : List UInt8} {a : AtX} {r : List UInt8} (h : attrX s = some (a, r)) : r.length < s.length := by
  unfold attrX at h
  by_cases hn : (nameX s).1 = []
  · rw [if_pos hn] at h; cases h
  rw [if_neg hn] at h
  have h0 := nameX_ne hn
  have h1 := dropW_len spcX (nameX s).2
  split at h
  · rename_i r2 e2
    rw [e2] at h1
    have h3 := dropW_len spcX r2
    split at h
    · rename_i q r4 e4
      rw [e4] at h3
      by_cases hq : q = 34 ∨ q = 39
      · rw [if_pos hq] at h
        obtain ⟨⟨x, y⟩, h4, h5⟩ := Option.bind_eq_some_iff.1 h
        simp only at h5
        split at h5
        · cases h5
        · obtain ⟨v, _, h6⟩ := Option.map_eq_some_iff.1 h5
          simp only [Prod.mk.injEq] at h6
          obtain ⟨_, rfl⟩ := h6
          have := (upTo_lt h4).1
          simp at this h1 h3
          omega
      · rw [if_neg hq] at h; cases h
    · cases h
  · cases h
theorem attrsG_local : Local (fun (f : List UInt8 → List AtX → Option (List AtX × Bool × List UInt8)) s l => attrsG f s l) := by
  intro f g s h
  funext l
  show attrsG f s l = attrsG g s l
  unfold attrsG
  have h1 := dropW_len spcX s
  split
  · rfl
  · rfl
  · rename_i r _ _
    cases hx : attrX (s.dropWhile spcX) with
    | none => rfl
    | some x =>
      obtain ⟨a, r'⟩ := x
      have := attrX_lt hx
      simp only [Option.bind_some]
      rw [h r' (by omega)]
theorem attrsX_eq (s : List UInt8) (l : List AtX) : attrsX s l = attrsG attrsX s l := by
  have := congrFun (runL_eq attrsG_local (d := fun _ => none) s) l
  exact this
theorem attrsX_lt : ∀ (n : Nat) {s : List UInt8} {l m : List AtX} {b : Bool} {r : List UInt8}, s.length ≤ n → attrsX s l = some (m, b, r) → r.length < s.length := by
  intro n
  induction n with
  | zero =>
    intro s l m b r hn h
    have : s = [] := List.length_eq_zero_iff.1 (by omega)
    subst this
    rw [attrsX_eq] at h
    simp [attrsG, attrX, nameX] at h
  | succ n ih =>
    intro s l m b r hn h
    rw [attrsX_eq] at h
    unfold attrsG at h
    have h1 := dropW_len spcX s
    split at h
    · rename_i q e
      cases h
      rw [e] at h1; simp at h1; omega
    · rename_i q e
      cases h
      rw [e] at h1; simp at h1; omega
    · obtain ⟨⟨a, r'⟩, h2, h3⟩ := Option.bind_eq_some_iff.1 h
      have h4 := attrX_lt h2
      simp only at h3
      split at h3
      · have := ih (by omega) h3
        omega
      · cases h3
theorem past_lt {p s r : List UInt8} (h : past p s = some r) : s = p ++ r ∧ r.length + p.length = s.length := by
  unfold past at h
  split at h
  · rename_i hp
    cases h
    obtain ⟨t, ht⟩ := List.isPrefixOf_iff_prefix.1 hp
    rw [← ht, List.drop_left]
    exact ⟨rfl, by simp; omega⟩
  · cases h
theorem tagX_lt {s : List UInt8} {l : List TkX} {r : List UInt8} (h : tagX s = some (l, r)) : r.length < s.length := by
  unfold tagX at h
  split at h
  · cases h
  · rename_i hn
    obtain ⟨⟨m, b, r'⟩, h1, h2⟩ := Option.map_eq_some_iff.1 h
    simp only [Prod.mk.injEq] at h2
    obtain ⟨_, rfl⟩ := h2
    have := attrsX_lt _ (Nat.le_refl _) h1
    have := nameX_ne hn
    omega
theorem endX_lt {s : List UInt8} {l : List TkX} {r : List UInt8} (h : endX s = some (l, r)) : r.length < s.length := by
  unfold endX at h
  split at h
  · cases h
  · rename_i hn
    have h1 := dropW_len spcX (nameX s).2
    have := nameX_ne hn
    split at h
    · rename_i r' e
      cases h
      rw [e] at h1; simp at h1; omega
    · cases h
theorem partX_lt {s : List UInt8} {p : PtX} {r : List UInt8} (h : partX s = some (p, r)) : r.length < s.length := by
  unfold partX at h
  have hm : ∀ {α : Type} {o : Option (α × List UInt8)} {q : List UInt8} {F : α × List UInt8 → PtX}, o.map (fun x => (F x, x.2)) = some (p, r) → (∀ a b, o = some (a, b) → b.length ≤ q.length) → r.length ≤ q.length := by
    intro α o q F h1 h2
    obtain ⟨⟨a, b⟩, h3, h4⟩ := Option.map_eq_some_iff.1 h1
    simp only [Prod.mk.injEq] at h4
    obtain ⟨_, rfl⟩ := h4
    exact h2 a b h3
  split at h
  · rename_i q e
    have := (past_lt e).2
    have := hm h (fun a b hh => (by have := (upTo_lt hh).1; omega : b.length ≤ q.length))
    simp [sComment] at *; omega
  split at h
  · rename_i q e
    have := (past_lt e).2
    have := hm h (fun a b hh => (by have := (upTo_lt hh).1; omega : b.length ≤ q.length))
    simp [sInstr] at *; omega
  split at h
  · rename_i q e
    have := (past_lt e).2
    obtain ⟨⟨a, b⟩, h3, h4⟩ := Option.bind_eq_some_iff.1 h
    simp only at h4
    split at h4
    · cases h4
    · cases h4
      have := (upTo_lt h3).1
      simp [sDoc] at *; omega
  split at h
  · rename_i q e
    have := (past_lt e).2
    have := hm h (fun a b hh => (by have := (upTo_lt hh).1; omega : b.length ≤ q.length))
    simp [sData] at *; omega
  split at h
  · rename_i q e
    have := (past_lt e).2
    have := hm h (fun a b hh => (by have := endX_lt hh; omega : b.length ≤ q.length))
    simp [sEnd] at *; omega
  split at h
  · rename_i q e
    have := (past_lt e).2
    have := hm h (fun a b hh => (by have := tagX_lt hh; omega : b.length ≤ q.length))
    simp at *; omega
  split at h
  · rename_i q e
    have := (past_lt e).2
    have := hm h (fun a b hh => (by have := refX_lt hh; omega : b.length ≤ q.length))
    simp at *; omega
  split at h
  · cases h
  · cases h; simp
theorem partsG_local : Local partsG := by
  intro f g s h
  cases s with
  | nil => rfl
  | cons c r =>
    simp only [partsG]
    cases hx : partX (c :: r) with
    | none => rfl
    | some x =>
      obtain ⟨p, r'⟩ := x
      have := partX_lt hx
      simp only
      rw [h r' this]
theorem partsX_nil : partsX [] = ([], none) := rfl
theorem partsX_bad {s : List UInt8} (hs : s ≠ []) (h : partX s = none) : partsX s = ([], some s) := by
  unfold partsX
  rw [runL_eq partsG_local]
  cases s with
  | nil => exact absurd rfl hs
  | cons c r => simp only [partsG, h]
theorem partX_nil : partX [] = none := by decide +kernel
theorem partsX_some {s r : List UInt8} {p : PtX} (h : partX s = some (p, r)) : partsX s = (p :: (partsX r).1, (partsX r).2) := by
  unfold partsX
  rw [runL_eq partsG_local]
  cases s with
  | nil => rw [partX_nil] at h; cases h
  | cons c q => simp only [partsG, h]
theorem tokX_nil (w : List UInt8) : tokX w [] = endW w := rfl
/-! ### the chapter's examples -/
theorem ex_read1 : readX [60, 97, 32, 98, 61, 34, 49, 38, 97, 109, 112, 59, 50, 34, 62, 120, 60, 33, 45, 45, 32, 121, 32, 45, 45, 62, 60, 33, 91, 67, 68, 65, 84, 65, 91, 60, 122, 62, 93, 93, 62, 60, 47, 97, 62] = (some [openT [97] [⟨[98], [49, 38, 50]⟩], wordsT [120, 60, 122, 62], closeT [97]], 0) := by decide +kernel
theorem ex_read2 : readX [60, 97, 47, 62] = (some [openT [97] [], closeT [97]], 0) := by decide +kernel
theorem ex_read3 : readX [60, 97, 32, 98, 61, 49, 62] = (none, 0) := by decide +kernel
theorem ex_read4 : readX [120, 38, 121, 59] = (none, 1) := by decide +kernel
theorem ex_read5 : readX [60, 97, 32, 98, 61, 34, 49, 34, 32, 98, 61, 34, 50, 34, 62] = (none, 0) := by decide +kernel
theorem ex_read6 : readX [60, 97] = (none, 0) := by decide +kernel
theorem ex_esc : escX [97, 38, 39] = [97, 38, 97, 109, 112, 59, 38, 97, 112, 111, 115, 59] := by decide +kernel
end Go.Proofs.YtjoeamlidmmioaaGreatDoor

/-
  LAYER 11 (xml), plain mathematics: what stands behind a part changes nothing.
-/
namespace Go.Proofs.YtjoeamlidmmioaaGreatDoor
set_option linter.unusedVariables false
set_option maxRecDepth 100000

/-! ### what stands behind changes nothing -/
theorem pre_len {p s u : List UInt8} (h : p.length ≤ s.length) : p.isPrefixOf (s ++ u) = p.isPrefixOf s := by
  rw [Bool.eq_iff_iff, List.isPrefixOf_iff_prefix, List.isPrefixOf_iff_prefix]
  exact ⟨fun hh => List.prefix_of_prefix_length_le hh (List.prefix_append s u) h, fun hh => hh.trans (List.prefix_append s u)⟩
theorem upTo_app {e : List UInt8} (u : List UInt8) : ∀ {s a b : List UInt8}, upTo e s = some (a, b) → upTo e (s ++ u) = some (a, b ++ u)
  | [], _, _, h => by simp [upTo] at h
  | c :: r, a, b, h => by
    have hl := (upTo_lt h).1
    have he : e.length ≤ (c :: r).length := by omega
    unfold upTo at h
    show upTo e (c :: (r ++ u)) = _
    unfold upTo
    rw [← List.cons_append, pre_len he]
    by_cases hp : e.isPrefixOf (c :: r) = true
    · rw [if_pos hp] at h ⊢
      cases h
      rw [List.drop_append_of_le_length he]
    · rw [if_neg hp] at h ⊢
      obtain ⟨⟨a', b'⟩, h1, h2⟩ := Option.map_eq_some_iff.1 h
      simp only [Prod.mk.injEq] at h2
      obtain ⟨rfl, rfl⟩ := h2
      rw [upTo_app u h1]; rfl
theorem dropW_app {p : UInt8 → Bool} {s : List UInt8} (u : List UInt8) (h : s.dropWhile p ≠ []) : (s ++ u).dropWhile p = s.dropWhile p ++ u := by
  rw [List.dropWhile_append, if_neg]
  simpa using h
theorem takeW_app {p : UInt8 → Bool} : ∀ {s : List UInt8} (u : List UInt8), s.dropWhile p ≠ [] → (s ++ u).takeWhile p = s.takeWhile p
  | [], u, h => absurd rfl h
  | c :: r, u, h => by
    by_cases hc : p c = true
    · rw [List.dropWhile_cons_of_pos hc] at h
      rw [List.cons_append, List.takeWhile_cons_of_pos hc, List.takeWhile_cons_of_pos hc, takeW_app u h]
    · rw [List.cons_append, List.takeWhile_cons_of_neg hc, List.takeWhile_cons_of_neg hc]
theorem nameX_app {s : List UInt8} (u : List UInt8) (h : (nameX s).2 ≠ []) : nameX (s ++ u) = ((nameX s).1, (nameX s).2 ++ u) := by
  cases s with
  | nil => exact absurd rfl h
  | cons c r =>
    simp only [nameX, List.cons_append] at h ⊢
    by_cases hc : begX c
    · simp only [hc, if_true] at h ⊢
      rw [takeW_app u h, dropW_app u h]
    · simp [hc]
theorem refX_app {s t r : List UInt8} (u : List UInt8) (h : refX s = some (t, r)) : refX (s ++ u) = some (t, r ++ u) := by
  unfold refX at h ⊢
  obtain ⟨⟨a, b⟩, h1, h2⟩ := Option.bind_eq_some_iff.1 h
  obtain ⟨t', h3, h4⟩ := Option.map_eq_some_iff.1 h2
  cases h4
  rw [upTo_app u h1, Option.bind_some]
  simp only at h3 ⊢
  rw [h3]; rfl
theorem attrX_app {s : List UInt8} {a : AtX} {r : List UInt8} (u : List UInt8) (h : attrX s = some (a, r)) : attrX (s ++ u) = some (a, r ++ u) := by
  unfold attrX at h ⊢
  by_cases hn : (nameX s).1 = []
  · rw [if_pos hn] at h; cases h
  rw [if_neg hn] at h
  split at h
  · rename_i r2 e2
    have hne : (nameX s).2.dropWhile spcX ≠ [] := by rw [e2]; simp
    have hn2 : (nameX s).2 ≠ [] := fun e => by rw [e] at hne; exact hne rfl
    split at h
    · rename_i q r4 e4
      have hne4 : r2.dropWhile spcX ≠ [] := by rw [e4]; simp
      rw [nameX_app u hn2]
      simp only
      rw [if_neg hn, dropW_app u hne, e2, List.cons_append]
      simp only
      rw [dropW_app u hne4, e4, List.cons_append]
      simp only
      split at h
      · rename_i hq
        rw [if_pos hq]
        obtain ⟨⟨x, y⟩, h4, h5⟩ := Option.bind_eq_some_iff.1 h
        rw [upTo_app u h4, Option.bind_some]
        simp only at h5 ⊢
        split at h5
        · cases h5
        · rename_i h6
          rw [if_neg h6]
          obtain ⟨v, hv, h7⟩ := Option.map_eq_some_iff.1 h5
          cases h7
          rw [hv]; rfl
      · cases h
    · cases h
  · cases h
theorem attrsX_app : ∀ (n : Nat) {s : List UInt8} {l m : List AtX} {b : Bool} {r : List UInt8} (u : List UInt8), s.length ≤ n → attrsX s l = some (m, b, r) → attrsX (s ++ u) l = some (m, b, r ++ u) := by
  intro n
  induction n with
  | zero =>
    intro s l m b r u hn h
    have := attrsX_lt s.length (Nat.le_refl _) h
    omega
  | succ n ih =>
    intro s l m b r u hn h
    rw [attrsX_eq] at h ⊢
    have h1 := dropW_len spcX s
    unfold attrsG at h ⊢
    have hne : s.dropWhile spcX ≠ [] := by
      intro e
      rw [e] at h
      simp [attrX, nameX] at h
    rw [dropW_app u hne]
    split at h
    · rename_i q e; rw [e]; cases h; rfl
    · rename_i q e; rw [e]; cases h; rfl
    · rename_i na nb
      obtain ⟨⟨a, r'⟩, h2, h3⟩ := Option.bind_eq_some_iff.1 h
      have h4 := attrX_lt h2
      have h5 := attrX_app u h2
      simp only at h3
      split at h3
      · rename_i hc
        have h6 := ih u (by omega) h3
        cases hd : s.dropWhile spcX with
        | nil => exact absurd hd hne
        | cons x xs =>
          rw [hd] at na nb h2 h5 h1 hc
          have hnc : ∀ ys, x :: xs ≠ 47 :: 62 :: ys := nb
          have hx62 : x ≠ 62 := fun e => na xs (by rw [e])
          have key : (match x :: (xs ++ u) with
            | 62 :: r => some (l, false, r)
            | 47 :: 62 :: r => some (l, true, r)
            | r => (attrX r).bind fun x => if r.length < (s ++ u).length ∧ hasX l x.1.n = false then attrsX x.2 (l ++ [x.1]) else none) = (attrX (x :: (xs ++ u))).bind fun y => if (x :: (xs ++ u)).length < (s ++ u).length ∧ hasX l y.1.n = false then attrsX y.2 (l ++ [y.1]) else none := by
            split
            · rename_i r e
              exact absurd (List.cons.inj e).1 hx62
            · rename_i r e
              obtain ⟨rfl, e2⟩ := List.cons.inj e
              -- the name of an attribute does not begin with /
              exfalso
              unfold attrX at h2
              rw [if_pos (by rfl)] at h2
              cases h2
            · rfl
          rw [List.cons_append]
          refine Eq.trans key ?_
          rw [← List.cons_append, h5]
          simp only [Option.bind_some]
          rw [if_pos ⟨by simp at hc ⊢; omega, hc.2⟩]
          exact h6
      · cases h3
theorem tagX_app {s : List UInt8} {l : List TkX} {r : List UInt8} (u : List UInt8) (h : tagX s = some (l, r)) : tagX (s ++ u) = some (l, r ++ u) := by
  unfold tagX at h ⊢
  split at h
  · cases h
  · rename_i hn
    obtain ⟨⟨m, b, r'⟩, h1, h2⟩ := Option.map_eq_some_iff.1 h
    have hne : (nameX s).2 ≠ [] := by
      intro e; rw [e] at h1
      have := attrsX_lt _ (Nat.le_refl _) h1
      simp at this
    rw [nameX_app u hne]
    simp only
    rw [if_neg hn, attrsX_app _ u (Nat.le_refl _) h1]
    cases h2; rfl
theorem endX_app {s : List UInt8} {l : List TkX} {r : List UInt8} (u : List UInt8) (h : endX s = some (l, r)) : endX (s ++ u) = some (l, r ++ u) := by
  unfold endX at h ⊢
  split at h
  · cases h
  · rename_i hn
    split at h
    · rename_i r' e
      have hd : (nameX s).2.dropWhile spcX ≠ [] := by rw [e]; simp
      have hne : (nameX s).2 ≠ [] := fun e => by rw [e] at hd; exact hd rfl
      rw [nameX_app u hne]
      simp only
      rw [if_neg hn, dropW_app u hd, e]
      cases h; rfl
    · cases h

/-! ### the kinds of parts -/
theorem partX_comment (y : List UInt8) : partX (60 :: 33 :: 45 :: 45 :: y) = (upTo eComment y).map fun x => (.txt [], x.2) := by
  simp [partX, past, sComment]
theorem partX_instr (y : List UInt8) : partX (60 :: 63 :: y) = (upTo eInstr y).map fun x => (.txt [], x.2) := by
  simp [partX, past, sComment, sInstr]
theorem partX_doc (y : List UInt8) : partX (60 :: 33 :: 68 :: 79 :: 67 :: 84 :: 89 :: 80 :: 69 :: y) = (upTo [62] y).bind fun x => if (91 : UInt8) ∈ x.1 ∨ (60 : UInt8) ∈ x.1 then none else some (.txt [], x.2) := by
  simp [partX, past, sComment, sInstr, sDoc]
theorem partX_data (y : List UInt8) : partX (60 :: 33 :: 91 :: 67 :: 68 :: 65 :: 84 :: 65 :: 91 :: y) = (upTo eData y).map fun x => (.txt x.1, x.2) := by
  simp [partX, past, sComment, sInstr, sDoc, sData]
theorem partX_end (y : List UInt8) : partX (60 :: 47 :: y) = (endX y).map fun x => (.tags x.1, x.2) := by
  simp [partX, past, sComment, sInstr, sDoc, sData, sEnd]
theorem nameX_head {y : List UInt8} (h : (nameX y).1 ≠ []) : ∃ c r, y = c :: r ∧ begX c = true := by
  cases y with
  | nil => exact absurd rfl h
  | cons c r =>
    refine ⟨c, r, rfl, ?_⟩
    unfold nameX at h
    by_cases hc : begX c = true
    · exact hc
    · simp [hc] at h
theorem begX_not {c : UInt8} (h : begX c = true) : c ≠ 33 ∧ c ≠ 63 ∧ c ≠ 47 := by
  refine ⟨?_, ?_, ?_⟩ <;> (rintro rfl; exact absurd h (by decide))
theorem partX_tag {y : List UInt8} (h : (nameX y).1 ≠ []) : partX (60 :: y) = (tagX y).map fun x => (.tags x.1, x.2) := by
  obtain ⟨c, r, rfl, hc⟩ := nameX_head h
  obtain ⟨h1, h2, h3⟩ := begX_not hc
  simp [partX, past, sComment, sInstr, sDoc, sData, sEnd, Ne.symm h1, Ne.symm h2, Ne.symm h3]
theorem partX_ref (y : List UInt8) : partX (38 :: y) = (refX y).map fun x => (.txt x.1, x.2) := by
  simp [partX, past, sComment, sInstr, sDoc, sData, sEnd]
theorem partX_byte {c : UInt8} (h1 : c ≠ 60) (h2 : c ≠ 38) (y : List UInt8) : partX (c :: y) = some (.txt [c], y) := by
  simp [partX, past, sComment, sInstr, sDoc, sData, sEnd, Ne.symm h1, Ne.symm h2]
theorem partX_app {s : List UInt8} {p : PtX} {r : List UInt8} (u : List UInt8) (h : partX s = some (p, r)) : partX (s ++ u) = some (p, r ++ u) := by
  have hm : ∀ {α : Type} {o o' : Option (α × List UInt8)} {F : α × List UInt8 → PtX}, o.map (fun x => (F x, x.2)) = some (p, r) → (∀ a b, o = some (a, b) → o' = some (a, b ++ u)) → (∀ a b c, F (a, b) = F (a, c)) → o'.map (fun x => (F x, x.2)) = some (p, r ++ u) := by
    intro α o o' F h1 h2 h5
    obtain ⟨⟨a, b⟩, h3, h4⟩ := Option.map_eq_some_iff.1 h1
    simp only [Prod.mk.injEq] at h4
    obtain ⟨rfl, rfl⟩ := h4
    rw [h2 a b h3]
    simp only [Option.map_some, Option.some.injEq, Prod.mk.injEq, and_true]
    exact h5 _ _ _
  have h' := h
  unfold partX at h
  split at h
  · rename_i q e
    rw [(past_lt e).1]
    show partX (60 :: 33 :: 45 :: 45 :: (q ++ u)) = _
    rw [partX_comment]
    exact hm h (fun a b hh => upTo_app u hh) (fun _ _ _ => rfl)
  split at h
  · rename_i q e
    rw [(past_lt e).1]
    show partX (60 :: 63 :: (q ++ u)) = _
    rw [partX_instr]
    exact hm h (fun a b hh => upTo_app u hh) (fun _ _ _ => rfl)
  split at h
  · rename_i q e
    rw [(past_lt e).1]
    show partX (60 :: 33 :: 68 :: 79 :: 67 :: 84 :: 89 :: 80 :: 69 :: (q ++ u)) = _
    rw [partX_doc]
    obtain ⟨⟨a, b⟩, h3, h4⟩ := Option.bind_eq_some_iff.1 h
    simp only at h4
    split at h4
    · cases h4
    · rename_i h5
      cases h4
      rw [upTo_app u h3, Option.bind_some]
      simp only
      rw [if_neg h5]
  split at h
  · rename_i q e
    rw [(past_lt e).1]
    show partX (60 :: 33 :: 91 :: 67 :: 68 :: 65 :: 84 :: 65 :: 91 :: (q ++ u)) = _
    rw [partX_data]
    exact hm h (fun a b hh => upTo_app u hh) (fun _ _ _ => rfl)
  split at h
  · rename_i q e
    rw [(past_lt e).1]
    show partX (60 :: 47 :: (q ++ u)) = _
    rw [partX_end]
    exact hm h (fun a b hh => endX_app u hh) (fun _ _ _ => rfl)
  split at h
  · rename_i q e
    have he := (past_lt e).1
    subst he
    have hn : (nameX q).1 ≠ [] := by
      intro e; unfold tagX at h; rw [if_pos e] at h; cases h
    show partX (60 :: (q ++ u)) = _
    have hn2 : (nameX (q ++ u)).1 ≠ [] := by
      obtain ⟨c, t, rfl, hc⟩ := nameX_head hn
      simp [nameX, hc]
    rw [partX_tag hn2]
    exact hm h (fun a b hh => tagX_app u hh) (fun _ _ _ => rfl)
  split at h
  · rename_i q e
    rw [(past_lt e).1]
    show partX (38 :: (q ++ u)) = _
    rw [partX_ref]
    exact hm h (fun a b hh => refX_app u hh) (fun _ _ _ => rfl)
  · split at h
    · cases h
    · rename_i c q _ _ _ _ _ h60 h38
      cases h
      have a1 : c ≠ 60 := by
        rintro rfl
        exact absurd h60 (by simp [past])
      have a2 : c ≠ 38 := by
        rintro rfl
        exact absurd h38 (by simp [past])
      rw [List.cons_append, partX_byte a1 a2]
theorem partsX_app : ∀ (n : Nat) {s : List UInt8} (u : List UInt8), s.length ≤ n → (partsX s).2 = none → partsX (s ++ u) = ((partsX s).1 ++ (partsX u).1, (partsX u).2) := by
  intro n
  induction n with
  | zero =>
    intro s u hn h
    have : s = [] := List.length_eq_zero_iff.1 (by omega)
    subst this
    rfl
  | succ n ih =>
    intro s u hn h
    cases hp : partX s with
    | none =>
      by_cases hs : s = []
      · subst hs; rfl
      · rw [partsX_bad hs hp] at h; cases h
    | some x =>
      obtain ⟨p, r⟩ := x
      have hl := partX_lt hp
      rw [partsX_some hp] at h ⊢
      rw [partsX_some (partX_app u hp), ih u (by omega) h]
      rfl
theorem partsX_append {s : List UInt8} (u : List UInt8) (h : (partsX s).2 = none) : partsX (s ++ u) = ((partsX s).1 ++ (partsX u).1, (partsX u).2) := partsX_app _ u (Nat.le_refl _) h
theorem tokX_app (ps qs : List PtX) : ∀ (w : List UInt8), ∀ l : List TkX, tokX w (ps ++ .tags l :: qs) = tokX w ps ++ l ++ tokX [] qs := by
  induction ps with
  | nil => intro w l; rfl
  | cons p ps ih =>
    intro w l
    cases p with
    | txt t => exact ih (w ++ t) l
    | tags m =>
      show endW w ++ m ++ tokX [] (ps ++ .tags l :: qs) = endW w ++ m ++ tokX [] ps ++ l ++ tokX [] qs
      rw [ih]; simp
theorem partsX_rest : ∀ (n : Nat) {s r : List UInt8}, s.length ≤ n → (partsX s).2 = some r → r.length ≤ s.length := by
  intro n
  induction n with
  | zero =>
    intro s r hn h
    have : s = [] := List.length_eq_zero_iff.1 (by omega)
    subst this
    cases h
  | succ n ih =>
    intro s r hn h
    cases hp : partX s with
    | none =>
      by_cases hs : s = []
      · subst hs; cases h
      · rw [partsX_bad hs hp] at h; cases h; exact Nat.le_refl _
    | some x =>
      obtain ⟨p, q⟩ := x
      have hl := partX_lt hp
      rw [partsX_some hp] at h
      have := ih (by omega) h
      omega
end Go.Proofs.YtjoeamlidmmioaaGreatDoor

/-
  LAYER 11 (xml), plain mathematics: what is written is read as it was.
-/
namespace Go.Proofs.YtjoeamlidmmioaaGreatDoor
set_option linter.unusedVariables false
set_option maxRecDepth 100000

/-! ### what is written is read -/
theorem mem_tw {p : UInt8 → Bool} : ∀ {l : List UInt8} {x : UInt8}, x ∈ l.takeWhile p → p x = true
  | c :: r, x, h => by
    by_cases hc : p c = true
    · rw [List.takeWhile_cons_of_pos hc] at h
      rcases List.mem_cons.1 h with rfl | h
      · exact hc
      · exact mem_tw h
    · rw [List.takeWhile_cons_of_neg hc] at h; cases h
def NmOk (n : List UInt8) : Prop := n ≠ [] ∧ nameX n = (n, [])
theorem nameX_ok {s : List UInt8} (h : (nameX s).1 ≠ []) : NmOk (nameX s).1 := by
  obtain ⟨c, r, rfl, hc⟩ := nameX_head h
  refine ⟨h, ?_⟩
  simp only [nameX, hc, if_true]
  have h1 : ∀ x ∈ r.takeWhile nmc, nmc x = true := fun x hx => mem_tw hx
  have h2 := List.takeWhile_append_of_pos (l₂ := []) h1
  have h3 := List.dropWhile_append_of_pos (l₂ := []) h1
  rw [List.append_nil] at h2 h3
  rw [h2, h3]; simp
theorem nmOk_parts {n : List UInt8} (h : NmOk n) : ∃ c r, n = c :: r ∧ begX c = true ∧ ∀ x ∈ r, nmc x = true := by
  obtain ⟨h1, h2⟩ := h
  obtain ⟨c, r, rfl, hc⟩ := nameX_head (y := n) (by rw [h2]; exact h1)
  refine ⟨c, r, rfl, hc, ?_⟩
  simp only [nameX, hc, if_true, Prod.mk.injEq, List.cons.injEq, true_and] at h2
  intro x hx
  rw [← h2.1] at hx
  exact mem_tw hx
theorem nameX_put {n : List UInt8} (h : NmOk n) {x : UInt8} (hx : nmc x = false) (y : List UInt8) : nameX (n ++ x :: y) = (n, x :: y) := by
  obtain ⟨c, r, rfl, hc, hr⟩ := nmOk_parts h
  simp only [List.cons_append, nameX, hc, if_true]
  rw [List.takeWhile_append_of_pos hr, List.dropWhile_append_of_pos hr]
  simp [hx]
theorem nmc_62 : nmc 62 = false := by decide
theorem nmc_32 : nmc 32 = false := by decide
theorem nmc_61 : nmc 61 = false := by decide
theorem nmc_47 : nmc 47 = false := by decide

theorem upTo_put {q : UInt8} : ∀ {s : List UInt8} (u : List UInt8), q ∉ s → upTo [q] (s ++ q :: u) = some (s, u)
  | [], u, _ => by simp [upTo]
  | c :: r, u, h => by
    have h1 : q ≠ c := fun e => h (by rw [e]; exact List.mem_cons_self ..)
    have h2 : q ∉ r := fun e => h (List.mem_cons_of_mem _ e)
    rw [List.cons_append]
    unfold upTo
    rw [if_neg (by simp [h1]), upTo_put u h2]; rfl
theorem escB_mem {c q : UInt8} (h : q ∈ escB c) (hq : q = 34 ∨ q = 39 ∨ q = 60) : False := by
  unfold escB at h
  rcases hq with rfl | rfl | rfl <;> (repeat' split at h) <;> simp at h <;> simp_all
theorem escX_mem {s : List UInt8} {q : UInt8} (hq : q = 34 ∨ q = 39 ∨ q = 60) : q ∉ escX s := by
  intro h
  obtain ⟨c, _, h2⟩ := List.mem_flatMap.1 h
  exact escB_mem h2 hq
theorem escX_nil : escX [] = [] := rfl
theorem escX_cons (c : UInt8) (r : List UInt8) : escX (c :: r) = escB c ++ escX r := rfl
/-- The reference of a byte that is escaped. -/
theorem refX_esc (y : List UInt8) : refX (97 :: 109 :: 112 :: 59 :: y) = some ([38], y) ∧ refX (108 :: 116 :: 59 :: y) = some ([60], y) ∧ refX (103 :: 116 :: 59 :: y) = some ([62], y) ∧ refX (113 :: 117 :: 111 :: 116 :: 59 :: y) = some ([34], y) ∧ refX (97 :: 112 :: 111 :: 115 :: 59 :: y) = some ([39], y) := by
  refine ⟨?_, ?_, ?_, ?_, ?_⟩ <;> simp [refX, upTo, denX]
theorem escB_cases (c : UInt8) : (escB c = [c] ∧ c ≠ 38 ∧ c ≠ 60) ∨ ∃ l, escB c = 38 :: l ∧ ∀ y, refX (l ++ y) = some ([c], y) := by
  unfold escB
  by_cases h1 : c = 38
  · right; subst h1; exact ⟨[97, 109, 112, 59], by simp, fun y => (refX_esc y).1⟩
  by_cases h2 : c = 60
  · right; subst h2; exact ⟨[108, 116, 59], by simp, fun y => (refX_esc y).2.1⟩
  by_cases h3 : c = 62
  · right; subst h3; exact ⟨[103, 116, 59], by simp, fun y => (refX_esc y).2.2.1⟩
  by_cases h4 : c = 34
  · right; subst h4; exact ⟨[113, 117, 111, 116, 59], by simp, fun y => (refX_esc y).2.2.2.1⟩
  by_cases h5 : c = 39
  · right; subst h5; exact ⟨[97, 112, 111, 115, 59], by simp, fun y => (refX_esc y).2.2.2.2⟩
  left; simp [h1, h2, h3, h4, h5]
theorem saidX_esc : ∀ s : List UInt8, saidX (escX s) = some s
  | [] => saidX_nil
  | c :: r => by
    rw [escX_cons]
    rcases escB_cases c with ⟨h1, h2, h3⟩ | ⟨l, h1, h2⟩
    · rw [h1, List.singleton_append, saidX_cons, if_neg h2, saidX_esc r]; rfl
    · rw [h1, List.cons_append, saidX_cons, if_pos rfl, h2, Option.bind_some]
      simp only
      rw [saidX_esc r]; rfl
theorem partX_esc (c : UInt8) (y : List UInt8) : partX (escB c ++ y) = some (.txt [c], y) := by
  rcases escB_cases c with ⟨h1, h2, h3⟩ | ⟨l, h1, h2⟩
  · rw [h1, List.singleton_append, partX_byte h3 h2]
  · rw [h1, List.cons_append, partX_ref, h2]; rfl
theorem partsX_esc : ∀ (s u : List UInt8), partsX (escX s ++ u) = (s.map (fun c => .txt [c]) ++ (partsX u).1, (partsX u).2)
  | [], u => rfl
  | c :: r, u => by
    rw [escX_cons, List.append_assoc, partsX_some (partX_esc c _), partsX_esc r u]; rfl
theorem attrX_put {a : AtX} (h : NmOk a.n) {q : UInt8} (hq : q = 34 ∨ q = 39) (u : List UInt8) : attrX (a.n ++ [61, q] ++ escX a.v ++ [q] ++ u) = some (a, u) := by
  have e : a.n ++ [61, q] ++ escX a.v ++ [q] ++ u = a.n ++ 61 :: (q :: (escX a.v ++ q :: u)) := by simp
  have hsp : spcX q = false := by rcases hq with rfl | rfl <;> decide
  rw [e]
  unfold attrX
  rw [nameX_put h nmc_61]
  simp only
  rw [if_neg h.1, List.dropWhile_cons_of_neg (by decide)]
  simp only
  rw [List.dropWhile_cons_of_neg (by simp [hsp])]
  simp only
  rw [if_pos hq, upTo_put _ (escX_mem (by rcases hq with h | h; exact .inl h; exact .inr (.inl h))), Option.bind_some]
  simp only
  rw [if_neg (escX_mem (.inr (.inr rfl))), saidX_esc]; rfl
def DistF : List AtX → List AtX → Prop
  | _, [] => True
  | acc, a :: l => NmOk a.n ∧ hasX acc a.n = false ∧ DistF (acc ++ [a]) l
/-- Behind one space at least, an attribute. -/
theorem attrsX_step {s r : List UInt8} {l : List AtX} {a : AtX} (hs : attrX s = some (a, r)) (hh : hasX l a.n = false) (hn : NmOk a.n) (h0 : s.dropWhile spcX = s) : attrsX (32 :: s) l = attrsX r (l ++ [a]) := by
  rw [attrsX_eq]
  unfold attrsG
  have hd : (32 :: s).dropWhile spcX = s := by rw [List.dropWhile_cons_of_pos (by decide), h0]
  rw [hd]
  have hne : (nameX s).1 ≠ [] := by
    intro e; unfold attrX at hs; rw [if_pos e] at hs; cases hs
  obtain ⟨c, t, rfl, hc⟩ := nameX_head hne
  have h62 : c ≠ 62 := by rintro rfl; exact absurd hc (by decide)
  have h47 : c ≠ 47 := (begX_not hc).2.2
  split
  · rename_i e; exact absurd (List.cons.inj e).1 h62
  · rename_i e; exact absurd (List.cons.inj e).1 h47
  · rw [hs, Option.bind_some]
    simp only
    rw [if_pos ⟨by simp, hh⟩]
theorem begX_spc {c : UInt8} (h : begX c = true) : spcX c = false := by
  unfold spcX
  have a1 : c ≠ 32 := by rintro rfl; exact absurd h (by decide)
  have a2 : c ≠ 9 := by rintro rfl; exact absurd h (by decide)
  have a3 : c ≠ 10 := by rintro rfl; exact absurd h (by decide)
  have a4 : c ≠ 13 := by rintro rfl; exact absurd h (by decide)
  simp [a1, a2, a3, a4]
theorem attrsX_put : ∀ (l acc : List AtX) (u : List UInt8), DistF acc l → attrsX (l.flatMap wAt ++ [62] ++ u) acc = some (acc ++ l, false, u)
  | [], acc, u, _ => by
    rw [attrsX_eq]
    simp [attrsG, spcX]
  | a :: l, acc, u, h => by
    obtain ⟨h1, h2, h3⟩ := h
    have e : (a :: l).flatMap wAt ++ [62] ++ u = 32 :: (a.n ++ [61, 34] ++ escX a.v ++ [34] ++ (l.flatMap wAt ++ [62] ++ u)) := by simp [wAt]
    rw [e, attrsX_step (attrX_put h1 (.inl rfl) _) h2 h1, attrsX_put l _ u h3]
    · simp
    · obtain ⟨c, r, hn, hc, _⟩ := nmOk_parts h1
      rw [hn]
      simp only [List.cons_append]
      rw [List.dropWhile_cons_of_neg (by simp [begX_spc hc])]
theorem attrsX_dist : ∀ (n : Nat) {s : List UInt8} {l m : List AtX} {b : Bool} {r : List UInt8}, s.length ≤ n → attrsX s l = some (m, b, r) → ∃ k, m = l ++ k ∧ DistF l k := by
  intro n
  induction n with
  | zero =>
    intro s l m b r hn h
    have := attrsX_lt s.length (Nat.le_refl _) h
    omega
  | succ n ih =>
    intro s l m b r hn h
    rw [attrsX_eq] at h
    unfold attrsG at h
    have h1 := dropW_len spcX s
    split at h
    · cases h; exact ⟨[], by simp, trivial⟩
    · cases h; exact ⟨[], by simp, trivial⟩
    · obtain ⟨⟨a, r'⟩, h2, h3⟩ := Option.bind_eq_some_iff.1 h
      have h4 := attrX_lt h2
      simp only at h3
      split at h3
      · rename_i hc
        obtain ⟨k, rfl, hk⟩ := ih (by omega) h3
        refine ⟨a :: k, by simp, ?_, hc.2, hk⟩
        have hne : (nameX (s.dropWhile spcX)).1 ≠ [] := by
          intro e; unfold attrX at h2; rw [if_pos e] at h2; cases h2
        have : a.n = (nameX (s.dropWhile spcX)).1 := by
          unfold attrX at h2
          rw [if_neg hne] at h2
          split at h2
          · split at h2
            · split at h2
              · obtain ⟨x, _, h5⟩ := Option.bind_eq_some_iff.1 h2
                split at h5
                · cases h5
                · obtain ⟨v, _, h6⟩ := Option.map_eq_some_iff.1 h5
                  cases h6; rfl
              · cases h2
            · cases h2
          · cases h2
        rw [this]
        exact nameX_ok hne
      · cases h3
/-- A token as it is read. -/
def TkOk (t : TkX) : Prop := (t.k = 1 ∧ NmOk t.n ∧ DistF [] t.as ∧ t.t = []) ∨ (t.k = 2 ∧ NmOk t.n ∧ t.as = [] ∧ t.t = []) ∨ (t.k = 3 ∧ t.n = [] ∧ t.as = [] ∧ t.t ≠ [])
def TagOk (t : TkX) : Prop := TkOk t ∧ t.k ≠ 3
theorem partX_open {t : TkX} (h1 : t.k = 1) (h2 : NmOk t.n) (h3 : DistF [] t.as) (h4 : t.t = []) (u : List UInt8) : partX (wTk t ++ u) = some (.tags [t], u) := by
  obtain ⟨k, n, l, x⟩ := t
  simp only at h1 h2 h3 h4
  subst h1 h4
  have e : wTk ⟨1, n, l, []⟩ ++ u = 60 :: (n ++ (l.flatMap wAt ++ [62] ++ u)) := by simp [wTk]
  rw [e]
  have hx : ∃ x y, l.flatMap wAt ++ [62] ++ u = x :: y ∧ nmc x = false := by
    cases l with
    | nil => exact ⟨62, u, by simp, nmc_62⟩
    | cons a l => exact ⟨32, a.n ++ [61, 34] ++ escX a.v ++ [34] ++ (l.flatMap wAt ++ [62] ++ u), by simp [wAt], nmc_32⟩
  obtain ⟨x, y, hxy, hnx⟩ := hx
  have hnm : nameX (n ++ (l.flatMap wAt ++ [62] ++ u)) = (n, l.flatMap wAt ++ [62] ++ u) := by rw [hxy, nameX_put h2 hnx]
  rw [partX_tag (by rw [hnm]; exact h2.1)]
  unfold tagX
  rw [hnm]
  simp only
  rw [if_neg h2.1, attrsX_put l [] u h3]
  rfl
theorem partX_close {t : TkX} (h1 : t.k = 2) (h2 : NmOk t.n) (h3 : t.as = []) (h4 : t.t = []) (u : List UInt8) : partX (wTk t ++ u) = some (.tags [t], u) := by
  obtain ⟨k, n, l, x⟩ := t
  simp only at h1 h2 h3 h4
  subst h1 h3 h4
  have e : wTk ⟨2, n, [], []⟩ ++ u = 60 :: 47 :: (n ++ 62 :: u) := by simp [wTk]
  rw [e, partX_end]
  unfold endX
  rw [nameX_put h2 nmc_62]
  simp only
  rw [if_neg h2.1, List.dropWhile_cons_of_neg (by decide)]
  rfl
def ptsOf (t : TkX) : List PtX := if t.k = 3 then t.t.map (fun c => .txt [c]) else [.tags [t]]
theorem partsX_tk {t : TkX} (h : TkOk t) (u : List UInt8) : partsX (wTk t ++ u) = (ptsOf t ++ (partsX u).1, (partsX u).2) := by
  rcases h with ⟨h1, h2, h3, h4⟩ | ⟨h1, h2, h3, h4⟩ | ⟨h1, h2, h3, h4⟩
  · rw [partsX_some (partX_open h1 h2 h3 h4 u), ptsOf, if_neg (by omega)]; rfl
  · rw [partsX_some (partX_close h1 h2 h3 h4 u), ptsOf, if_neg (by omega)]; rfl
  · rw [ptsOf, if_pos h1]
    have : wTk t = escX t.t := by simp [wTk, h1]
    rw [this, partsX_esc]
theorem partsX_write : ∀ l : List TkX, (∀ t ∈ l, TkOk t) → partsX (writeX l) = (l.flatMap ptsOf, none)
  | [], _ => rfl
  | t :: l, h => by
    show partsX (wTk t ++ writeX l) = _
    rw [partsX_tk (h t (List.mem_cons_self ..)), partsX_write l fun x hx => h x (List.mem_cons_of_mem _ hx)]
    rfl
/-- Words never stand beside words. -/
def Alt : Bool → List TkX → Prop
  | _, [] => True
  | b, t :: l => (b = true → t.k ≠ 3) ∧ Alt (decide (t.k = 3)) l
theorem tokX_txts (t w : List UInt8) (ps : List PtX) : tokX w (t.map (fun c => .txt [c]) ++ ps) = tokX (w ++ t) ps := by
  induction t generalizing w with
  | nil => simp
  | cons c r ih =>
    show tokX (w ++ [c]) (r.map (fun c => .txt [c]) ++ ps) = _
    rw [ih]; simp
theorem tokX_pts : ∀ (l : List TkX) (w : List UInt8), (∀ t ∈ l, TkOk t) → Alt (decide (w ≠ [])) l → tokX w (l.flatMap ptsOf) = endW w ++ l
  | [], w, _, _ => by simp [tokX]
  | t :: l, w, h, ha => by
    have ht := h t (List.mem_cons_self ..)
    have hl := fun x hx => h x (List.mem_cons_of_mem t hx)
    rw [List.flatMap_cons]
    by_cases h3 : t.k = 3
    · have hw : w = [] := by
        rcases ha with ⟨a1, _⟩
        by_cases hw : w = []
        · exact hw
        · exact absurd h3 (a1 (by simpa using hw))
      subst hw
      have hs : t.n = [] ∧ t.as = [] ∧ t.t ≠ [] := by
        rcases ht with ⟨h, _⟩ | ⟨h, _⟩ | ⟨_, h⟩
        · omega
        · omega
        · exact h
      rw [ptsOf, if_pos h3, tokX_txts, List.nil_append, tokX_pts l t.t hl]
      · obtain ⟨k, n, as, x⟩ := t
        simp only at h3 hs
        obtain ⟨rfl, rfl, hx⟩ := hs
        subst h3
        simp [endW, hx, wordsT]
      · have := ha.2
        rw [decide_eq_true h3] at this
        rw [decide_eq_true hs.2.2]
        exact this
    · rw [ptsOf, if_neg h3]
      show endW w ++ [t] ++ tokX [] (l.flatMap ptsOf) = _
      rw [tokX_pts l [] hl]
      · simp [endW]
      · have := ha.2
        rw [decide_eq_false h3] at this
        simpa using this
/-- What parts are of a text that was read. -/
def PtOk : PtX → Prop
  | .txt _ => True
  | .tags l => l ≠ [] ∧ ∀ t ∈ l, TagOk t
theorem partX_ok {s : List UInt8} {p : PtX} {r : List UInt8} (h : partX s = some (p, r)) : PtOk p := by
  unfold partX at h
  have hm : ∀ {α : Type} {o : Option (α × List UInt8)} {F : α × List UInt8 → PtX}, o.map (fun x => (F x, x.2)) = some (p, r) → (∀ a b, o = some (a, b) → PtOk (F (a, b))) → PtOk p := by
    intro α o F h1 h2
    obtain ⟨⟨a, b⟩, h3, h4⟩ := Option.map_eq_some_iff.1 h1
    simp only [Prod.mk.injEq] at h4
    obtain ⟨rfl, _⟩ := h4
    exact h2 a b h3
  split at h
  · exact hm h (fun _ _ _ => trivial)
  split at h
  · exact hm h (fun _ _ _ => trivial)
  split at h
  · obtain ⟨⟨a, b⟩, h3, h4⟩ := Option.bind_eq_some_iff.1 h
    simp only at h4
    split at h4
    · cases h4
    · cases h4; exact trivial
  split at h
  · exact hm h (fun _ _ _ => trivial)
  split at h
  · refine hm h (fun a b hh => ?_)
    unfold endX at hh
    split at hh
    · cases hh
    · rename_i hn
      split at hh
      · cases hh
        refine ⟨by simp, fun t ht => ?_⟩
        simp at ht
        subst ht
        exact ⟨.inr (.inl ⟨rfl, nameX_ok hn, rfl, rfl⟩), fun e => absurd (show (2 : Int) = 3 from e) (by decide)⟩
      · cases hh
  split at h
  · refine hm h (fun a b hh => ?_)
    unfold tagX at hh
    split at hh
    · cases hh
    · rename_i hn
      obtain ⟨⟨m, f, r'⟩, h1, h2⟩ := Option.map_eq_some_iff.1 hh
      cases h2
      obtain ⟨k, hk, hd⟩ := attrsX_dist _ (Nat.le_refl _) h1
      refine ⟨by simp, fun t ht => ?_⟩
      rw [List.mem_cons] at ht
      rcases ht with rfl | ht
      · exact ⟨.inl ⟨rfl, nameX_ok hn, by simp at hk; show DistF [] m; rw [hk]; exact hd, rfl⟩, fun e => absurd (show (1 : Int) = 3 from e) (by decide)⟩
      · cases f with
        | false => simp at ht
        | true =>
          simp at ht
          subst ht
          exact ⟨.inr (.inl ⟨rfl, nameX_ok hn, rfl, rfl⟩), fun e => absurd (show (2 : Int) = 3 from e) (by decide)⟩
  split at h
  · exact hm h (fun _ _ _ => trivial)
  · split at h
    · cases h
    · cases h; exact trivial
theorem partsX_ok : ∀ (n : Nat) {s : List UInt8}, s.length ≤ n → ∀ p ∈ (partsX s).1, PtOk p := by
  intro n
  induction n with
  | zero =>
    intro s hn
    have : s = [] := List.length_eq_zero_iff.1 (by omega)
    subst this
    intro p hp; cases hp
  | succ n ih =>
    intro s hn
    cases hp : partX s with
    | none =>
      by_cases hs : s = []
      · subst hs; intro p hp; cases hp
      · rw [partsX_bad hs hp]; intro p hp; cases hp
    | some x =>
      obtain ⟨q, r⟩ := x
      have hl := partX_lt hp
      rw [partsX_some hp]
      intro p hpp
      rcases List.mem_cons.1 hpp with rfl | hpp
      · exact partX_ok hp
      · exact ih (by omega) p hpp
theorem alt_weak {l : List TkX} {b : Bool} (h : Alt true l) : Alt b l := by
  cases l with
  | nil => exact trivial
  | cons t l => exact ⟨fun _ => h.1 rfl, h.2⟩
theorem alt_tags : ∀ (m l : List TkX) (b : Bool), (∀ t ∈ m, TagOk t) → m ≠ [] → Alt false l → Alt b (m ++ l)
  | [], _, _, _, h, _ => absurd rfl h
  | t :: m, l, b, h, _, hl => by
    have ht := h t (List.mem_cons_self ..)
    refine ⟨fun _ => ht.2, ?_⟩
    rw [decide_eq_false ht.2]
    cases m with
    | nil => exact hl
    | cons u m => exact alt_tags (u :: m) l false (fun x hx => h x (List.mem_cons_of_mem _ hx)) (by simp) hl
theorem tokX_ok : ∀ (ps : List PtX) (w : List UInt8), (∀ p ∈ ps, PtOk p) → (∀ t ∈ tokX w ps, TkOk t) ∧ Alt false (tokX w ps)
  | [], w, _ => by
    unfold tokX endW
    split
    · exact ⟨by simp, trivial⟩
    · rename_i hw
      exact ⟨fun t ht => by simp at ht; subst ht; exact .inr (.inr ⟨rfl, rfl, rfl, hw⟩), by simp, trivial⟩
  | .txt t :: ps, w, h => tokX_ok ps (w ++ t) fun p hp => h p (List.mem_cons_of_mem _ hp)
  | .tags m :: ps, w, h => by
    obtain ⟨h1, h2⟩ := h _ (List.mem_cons_self ..)
    obtain ⟨h3, h4⟩ := tokX_ok ps [] fun p hp => h p (List.mem_cons_of_mem _ hp)
    show (∀ t ∈ endW w ++ m ++ tokX [] ps, TkOk t) ∧ Alt false (endW w ++ m ++ tokX [] ps)
    refine ⟨fun t ht => ?_, ?_⟩
    · simp only [List.mem_append] at ht
      rcases ht with (ht | ht) | ht
      · unfold endW at ht
        split at ht
        · cases ht
        · rename_i hw
          simp at ht; subst ht
          exact .inr (.inr ⟨rfl, rfl, rfl, hw⟩)
      · exact (h2 t ht).1
      · exact h3 t ht
    · have := fun b => alt_tags m (tokX [] ps) b h2 h1 h4
      unfold endW
      split
      · simpa using this false
      · exact ⟨by simp, by simpa using this (decide ((wordsT w).k = 3))⟩
/-- X3: what is read, written and read again. -/
theorem read_back {s : List UInt8} {l : List TkX} {n : Nat} (h : readX s = (some l, n)) : readX (writeX l) = (some l, 0) := by
  unfold readX at h
  split at h
  · cases h
    obtain ⟨h1, h2⟩ := tokX_ok (partsX s).1 [] (partsX_ok _ (Nat.le_refl _))
    have h3 := partsX_write _ h1
    unfold readX
    rw [h3]
    simp only
    rw [tokX_pts _ [] h1 (by simpa using h2)]
    rfl
  · cases h
theorem read_ok {s : List UInt8} {l : List TkX} {n : Nat} (h : readX s = (some l, n)) : (∀ t ∈ l, TkOk t) ∧ n = 0 := by
  unfold readX at h
  split at h
  · cases h
    exact ⟨(tokX_ok (partsX s).1 [] (partsX_ok _ (Nat.le_refl _))).1, rfl⟩
  · cases h
theorem read_esc (s : List UInt8) : readX (escX s) = (some (endW s), 0) := by
  have h := partsX_esc s []
  rw [List.append_nil, partsX_nil, List.append_nil] at h
  unfold readX
  rw [h]
  simp only
  have := tokX_txts s [] []
  rw [List.append_nil, List.nil_append] at this
  rw [this, tokX_nil]
theorem nmOk_a : NmOk [97] := ⟨by simp, by decide⟩
theorem nmOk_x : NmOk [120] := ⟨by simp, by decide⟩
/-- An escaped text in a value and between tags. -/
theorem read_both (s : List UInt8) : readX ([60, 97, 32, 120, 61, 39] ++ escX s ++ [39, 62] ++ escX s ++ [60, 47, 97, 62]) = (some (openT [97] [⟨[120], s⟩] :: endW s ++ [closeT [97]]), 0) := by
  have e : [60, 97, 32, 120, 61, 39] ++ escX s ++ [39, 62] ++ escX s ++ [60, 47, 97, 62] = 60 :: ([97] ++ 32 :: ([120] ++ [61, 39] ++ escX s ++ [39] ++ (62 :: (escX s ++ [60, 47, 97, 62])))) := by simp
  have hnm : nameX ([97] ++ 32 :: ([120] ++ [61, 39] ++ escX s ++ [39] ++ (62 :: (escX s ++ [60, 47, 97, 62])))) = ([97], 32 :: ([120] ++ [61, 39] ++ escX s ++ [39] ++ (62 :: (escX s ++ [60, 47, 97, 62])))) := nameX_put nmOk_a nmc_32 _
  have ha := attrX_put (a := ⟨[120], s⟩) nmOk_x (q := 39) (.inr rfl) (62 :: (escX s ++ [60, 47, 97, 62]))
  simp only at ha
  have ht : partX (60 :: ([97] ++ 32 :: ([120] ++ [61, 39] ++ escX s ++ [39] ++ (62 :: (escX s ++ [60, 47, 97, 62]))))) = some (.tags [openT [97] [⟨[120], s⟩]], escX s ++ [60, 47, 97, 62]) := by
    rw [partX_tag (by rw [hnm]; simp)]
    unfold tagX
    rw [hnm]
    simp only
    rw [if_neg (by simp), attrsX_step ha rfl nmOk_x (by simp only [List.cons_append]; rw [List.dropWhile_cons_of_neg (by decide)]), attrsX_eq]
    unfold attrsG
    rw [List.dropWhile_cons_of_neg (by decide)]
    rfl
  have hc : partsX [60, 47, 97, 62] = ([.tags [closeT [97]]], none) := by rfl
  rw [e]
  unfold readX
  rw [partsX_some ht, partsX_esc, hc]
  simp only
  show (some (endW [] ++ [openT [97] [⟨[120], s⟩]] ++ tokX [] (s.map (fun c => .txt [c]) ++ [.tags [closeT [97]]])), 0) = _
  rw [tokX_txts]
  simp [endW, tokX]
end Go.Proofs.YtjoeamlidmmioaaGreatDoor

