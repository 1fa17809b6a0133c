/-
  LAYER 11 (xml), plain mathematics: the parts of a document, its tokens, what is written.
-/
namespace Go.Proofs.YtaefdknaidbplaaGreatDoor
set_option linter.unusedVariables false
set_option maxRecDepth 100000

/-! ### a loop over a list that gets shorter -/
def fixL {β : Type} (G : (List UInt8 → β) → List UInt8 → β) (d : β) : Nat → List UInt8 → β
  | 0, _ => d
  | n + 1, s => G (fixL G d n) s
def runL {β : Type} (G : (List UInt8 → β) → List UInt8 → β) (d : β) (s : List UInt8) : β := fixL G d (s.length + 1) s
def Local {β : Type} (G : (List UInt8 → β) → List UInt8 → β) : Prop := ∀ (f g : List UInt8 → β) s, (∀ r, r.length < s.length → f r = g r) → G f s = G g s
theorem fixL_eq {β : Type} {G : (List UInt8 → β) → List UInt8 → β} {d : β} (hG : Local G) : ∀ (n m : Nat) (s : List UInt8), s.length < n → s.length < m → fixL G d n s = fixL G d m s
  | 0, _, _, h, _ => by omega
  | _ + 1, 0, _, _, h => by omega
  | n + 1, m + 1, s, h1, h2 => hG _ _ s fun r hr => fixL_eq hG n m r (by omega) (by omega)
theorem runL_eq {β : Type} {G : (List UInt8 → β) → List UInt8 → β} {d : β} (hG : Local G) (s : List UInt8) : runL G d s = G (runL G d) s :=
  hG _ _ s fun r hr => fixL_eq hG _ _ r hr (by omega)

/-! ### bytes -/
def spcX (c : UInt8) : Bool := c == 32 || c == 9 || c == 10 || c == 13
def begX (c : UInt8) : Bool := (decide (65 ≤ c) && decide (c ≤ 90)) || (decide (97 ≤ c) && decide (c ≤ 122)) || c == 95 || c == 58 || decide (128 ≤ c)
def digX (c : UInt8) : Bool := decide (48 ≤ c) && decide (c ≤ 57)
def conX (c : UInt8) : Bool := digX c || c == 46 || c == 45
def nmc (c : UInt8) : Bool := begX c || conX c
structure AtX where
  n : List UInt8
  v : List UInt8
deriving DecidableEq
structure TkX where
  k : Int
  n : List UInt8
  as : List AtX
  t : List UInt8
deriving DecidableEq
def nameX : List UInt8 → List UInt8 × List UInt8
  | [] => ([], [])
  | c :: r => if begX c then (c :: r.takeWhile nmc, r.dropWhile nmc) else ([], c :: r)
def upTo (e : List UInt8) : List UInt8 → Option (List UInt8 × List UInt8)
  | [] => none
  | c :: r => if e.isPrefixOf (c :: r) then some ([], (c :: r).drop e.length) else (upTo e r).map fun x => (c :: x.1, x.2)

/-! ### references -/
def sixX (c : UInt8) : Option Nat := if digX c then some (c.toNat - 48) else if decide (97 ≤ c) && decide (c ≤ 102) then some (c.toNat - 87) else if decide (65 ≤ c) && decide (c ≤ 70) then some (c.toNat - 55) else none
/-- One more digit of a base. -/
def digitX (b : Nat) (v : Option Nat) (c : UInt8) : Option Nat := v.bind fun v => (sixX c).bind fun d => if d < b then some (b * v + d) else none
def digsX (b : Nat) (s : List UInt8) : Option Nat := if s = [] then none else s.foldl (digitX b) (some 0)
def runeX (n : Nat) : Bool := decide (1 ≤ n) && decide (n ≤ 0x10FFFF) && !(decide (0xD800 ≤ n) && decide (n ≤ 0xDFFF))
def utfX (n : Nat) : List UInt8 :=
  if n < 0x80 then [n.toUInt8]
  else if n < 0x800 then [(0xC0 + n / 64).toUInt8, (0x80 + n % 64).toUInt8]
  else if n < 0x10000 then [(0xE0 + n / 4096).toUInt8, (0x80 + n / 64 % 64).toUInt8, (0x80 + n % 64).toUInt8]
  else [(0xF0 + n / 262144).toUInt8, (0x80 + n / 4096 % 64).toUInt8, (0x80 + n / 64 % 64).toUInt8, (0x80 + n % 64).toUInt8]
/-- The character of a number that digits of a base say, at most m of them. -/
def charX (b m : Nat) (d : List UInt8) : Option (List UInt8) := if m < d.length then none else (digsX b d).bind fun n => if runeX n then some (utfX n) else none
/-- What stands behind '#'. -/
def numbX : List UInt8 → Option (List UInt8)
  | 120 :: h => charX 16 6 h
  | d => charX 10 7 d
/-- What stands between & and ;. -/
def denX (s : List UInt8) : Option (List UInt8) :=
  if s = [97, 109, 112] then some [38] else if s = [108, 116] then some [60] else if s = [103, 116] then some [62] else if s = [113, 117, 111, 116] then some [34] else if s = [97, 112, 111, 115] then some [39]
  else match s with
  | 35 :: d => numbX d
  | _ => none
/-- What stands behind &. -/
def refX (s : List UInt8) : Option (List UInt8 × List UInt8) := (upTo [59] s).bind fun x => (denX x.1).map fun t => (t, x.2)
/-- A text with references: what it says. -/
def saidG (f : List UInt8 → Option (List UInt8)) : List UInt8 → Option (List UInt8)
  | [] => some []
  | c :: r => if c = 38 then (refX r).bind fun x => (f x.2).map (x.1 ++ ·) else (f r).map (c :: ·)
def saidX (s : List UInt8) : Option (List UInt8) := runL saidG none s

/-! ### tags -/
def attrX (s : List UInt8) : Option (AtX × List UInt8) :=
  if (nameX s).1 = [] then none else
  match (nameX s).2.dropWhile spcX with
  | 61 :: r2 => match r2.dropWhile spcX with
    | q :: r4 => if q = 34 ∨ q = 39 then (upTo [q] r4).bind fun x => if (60 : UInt8) ∈ x.1 then none else (saidX x.1).map fun v => (⟨(nameX s).1, v⟩, x.2) else none
    | [] => none
  | _ => none
def hasX (l : List AtX) (n : List UInt8) : Bool := l.any fun a => a.n == n
/-- Behind the name of an open tag: its attributes, whether it closes at once, the rest. -/
def attrsG (f : List UInt8 → List AtX → Option (List AtX × Bool × List UInt8)) (s : List UInt8) (l : List AtX) : Option (List AtX × Bool × List UInt8) :=
  match s.dropWhile spcX with
  | 62 :: r => some (l, false, r)
  | 47 :: 62 :: r => some (l, true, r)
  | r => (attrX r).bind fun x => if r.length < s.length ∧ hasX l x.1.n = false then f x.2 (l ++ [x.1]) else none
def attrsX (s : List UInt8) (l : List AtX) : Option (List AtX × Bool × List UInt8) := runL (fun f s l => attrsG f s l) (fun _ => none) s l
def openT (n : List UInt8) (l : List AtX) : TkX := ⟨1, n, l, []⟩
def closeT (n : List UInt8) : TkX := ⟨2, n, [], []⟩
def wordsT (t : List UInt8) : TkX := ⟨3, [], [], t⟩
def tagX (s : List UInt8) : Option (List TkX × List UInt8) :=
  if (nameX s).1 = [] then none else (attrsX (nameX s).2 []).map fun x => (openT (nameX s).1 x.1 :: (if x.2.1 then [closeT (nameX s).1] else []), x.2.2)
def endX (s : List UInt8) : Option (List TkX × List UInt8) :=
  if (nameX s).1 = [] then none else match (nameX s).2.dropWhile spcX with
  | 62 :: r => some ([closeT (nameX s).1], r)
  | _ => none

/-! ### parts -/
inductive PtX where
  | txt (l : List UInt8)
  | tags (l : List TkX)
def past (p s : List UInt8) : Option (List UInt8) := if p.isPrefixOf s then some (s.drop p.length) else none
def sComment : List UInt8 := [60, 33, 45, 45]
def eComment : List UInt8 := [45, 45, 62]
def sInstr : List UInt8 := [60, 63]
def eInstr : List UInt8 := [63, 62]
def sDoc : List UInt8 := [60, 33, 68, 79, 67, 84, 89, 80, 69]
def sData : List UInt8 := [60, 33, 91, 67, 68, 65, 84, 65, 91]
def eData : List UInt8 := [93, 93, 62]
def sEnd : List UInt8 := [60, 47]
def partX (s : List UInt8) : Option (PtX × List UInt8) :=
  match past sComment s with
  | some r => (upTo eComment r).map fun x => (.txt [], x.2)
  | none => match past sInstr s with
  | some r => (upTo eInstr r).map fun x => (.txt [], x.2)
  | none => match past sDoc s with
  | some r => (upTo [62] r).bind fun x => if (91 : UInt8) ∈ x.1 ∨ (60 : UInt8) ∈ x.1 then none else some (.txt [], x.2)
  | none => match past sData s with
  | some r => (upTo eData r).map fun x => (.txt x.1, x.2)
  | none => match past sEnd s with
  | some r => (endX r).map fun x => (.tags x.1, x.2)
  | none => match past [60] s with
  | some r => (tagX r).map fun x => (.tags x.1, x.2)
  | none => match past [38] s with
  | some r => (refX r).map fun x => (.txt x.1, x.2)
  | none => match s with
  | [] => none
  | c :: r => some (.txt [c], r)
def partsG (f : List UInt8 → List PtX × Option (List UInt8)) : List UInt8 → List PtX × Option (List UInt8)
  | [] => ([], none)
  | c :: r => match partX (c :: r) with
    | none => ([], some (c :: r))
    | some x => (x.1 :: (f x.2).1, (f x.2).2)
/-- The parts, and what stands where the first error begins. -/
def partsX (s : List UInt8) : List PtX × Option (List UInt8) := runL partsG ([], none) s
def endW (w : List UInt8) : List TkX := if w = [] then [] else [wordsT w]
def tokX : List UInt8 → List PtX → List TkX
  | w, [] => endW w
  | w, .txt t :: ps => tokX (w ++ t) ps
  | w, .tags l :: ps => endW w ++ l ++ tokX [] ps
/-- Read: tokens, error (0, 1: form), offset. -/
def readX (s : List UInt8) : Option (List TkX) × Nat := match (partsX s).2 with
  | none => (some (tokX [] (partsX s).1), 0)
  | some r => (none, s.length - r.length)
/-! ### writing -/
def escB (c : UInt8) : List UInt8 := if c = 38 then [38, 97, 109, 112, 59] else if c = 60 then [38, 108, 116, 59] else if c = 62 then [38, 103, 116, 59] else if c = 34 then [38, 113, 117, 111, 116, 59] else if c = 39 then [38, 97, 112, 111, 115, 59] else [c]
def escX (s : List UInt8) : List UInt8 := s.flatMap escB
def wAt (a : AtX) : List UInt8 := 32 :: a.n ++ [61, 34] ++ escX a.v ++ [34]
def wTk (t : TkX) : List UInt8 := if t.k = 1 then 60 :: t.n ++ t.as.flatMap wAt ++ [62] else if t.k = 2 then [60, 47] ++ t.n ++ [62] else if t.k = 3 then escX t.t else []
def writeX (l : List TkX) : List UInt8 := l.flatMap wTk

/-! ### what gets shorter -/
theorem upTo_lt {e : List UInt8} : ∀ {s : List UInt8} {a b : List UInt8}, upTo e s = some (a, b) → a.length + b.length + e.length = s.length ∧ s = a ++ e ++ b
  | [], _, _, h => by simp [upTo] at h
  | c :: r, a, b, h => by
    unfold upTo at h
    by_cases hp : e.isPrefixOf (c :: r) = true
    · rw [if_pos hp] at h
      simp only [Option.some.injEq, Prod.mk.injEq] at h
      obtain ⟨rfl, rfl⟩ := h
      obtain ⟨t, ht⟩ := List.isPrefixOf_iff_prefix.1 hp
      rw [← ht, List.drop_left]
      exact ⟨by simp; omega, by simp⟩
    · rw [if_neg hp] at h
      obtain ⟨⟨a', b'⟩, h1, h2⟩ := Option.map_eq_some_iff.1 h
      simp only [Prod.mk.injEq] at h2
      obtain ⟨rfl, rfl⟩ := h2
      obtain ⟨h3, h4⟩ := upTo_lt h1
      exact ⟨by simp; omega, by rw [h4]; simp⟩
theorem nameX_eq (s : List UInt8) : (nameX s).1 ++ (nameX s).2 = s := by
  cases s with
  | nil => rfl
  | cons c r =>
    unfold nameX
    by_cases h : begX c
    · simp [h, List.takeWhile_append_dropWhile]
    · simp [h]
theorem nameX_len (s : List UInt8) : (nameX s).1.length + (nameX s).2.length = s.length := by rw [← List.length_append, nameX_eq]
theorem nameX_ne {s : List UInt8} (h : (nameX s).1 ≠ []) : (nameX s).2.length < s.length := by
  have := nameX_len s
  have : (nameX s).1.length ≠ 0 := by simpa using h
  omega
theorem dropW_len (p : UInt8 → Bool) (s : List UInt8) : (s.dropWhile p).length ≤ s.length := (List.dropWhile_suffix p).length_le
theorem refX_lt {s t r : List UInt8} (h : refX s = some (t, r)) : r.length < s.length := by
  unfold refX at h
  obtain ⟨⟨a, b⟩, h1, h2⟩ := Option.bind_eq_some_iff.1 h
  obtain ⟨t', h3, h4⟩ := Option.map_eq_some_iff.1 h2
  simp only [Prod.mk.injEq] at h4
  obtain ⟨rfl, rfl⟩ := h4
  have := (upTo_lt h1).1
  simp at this
  omega
theorem saidG_local : Local saidG := by
  intro f g s h
  cases s with
  | nil => rfl
  | cons c r =>
    simp only [saidG]
    by_cases hc : c = 38
    · rw [if_pos hc, if_pos hc]
      cases hr : refX r with
      | none => rfl
      | some x =>
        obtain ⟨t, r'⟩ := x
        have := refX_lt hr
        simp only [Option.bind_some]
        rw [h r' (by simp; omega)]
    · rw [if_neg hc, if_neg hc, h r (by simp)]
theorem saidX_nil : saidX [] = some [] := rfl
theorem saidX_cons (c : UInt8) (r : List UInt8) : saidX (c :: r) = if c = 38 then (refX r).bind fun x => (saidX x.2).map (x.1 ++ ·) else (saidX r).map (c :: ·) := by
  unfold saidX
  rw [runL_eq saidG_local]
  rfl
theorem attrX_lt {s : List UInt8} {a : AtX} {r : List UInt8} (h : attrX s = some (a, r)) : r.length < s.length := by
  unfold attrX at h
  by_cases hn : (nameX s).1 = []
  · rw [if_pos hn] at h; cases h
  rw [if_neg hn] at h
  have h0 := nameX_ne hn
  have h1 := dropW_len spcX (nameX s).2
  split at h
  · rename_i r2 e2
    rw [e2] at h1
    have h3 := dropW_len spcX r2
    split at h
    · rename_i q r4 e4
      rw [e4] at h3
      by_cases hq : q = 34 ∨ q = 39
      · rw [if_pos hq] at h
        obtain ⟨⟨x, y⟩, h4, h5⟩ := Option.bind_eq_some_iff.1 h
        simp only at h5
        split at h5
        · cases h5
        · obtain ⟨v, _, h6⟩ := Option.map_eq_some_iff.1 h5
          simp only [Prod.mk.injEq] at h6
          obtain ⟨_, rfl⟩ := h6
          have := (upTo_lt h4).1
          simp at this h1 h3
          omega
      · rw [if_neg hq] at h; cases h
    · cases h
  · cases h
theorem attrsG_local : Local (fun (f : List UInt8 → List AtX → Option (List AtX × Bool × List UInt8)) s l => attrsG f s l) := by
  intro f g s h
  funext l
  show attrsG f s l = attrsG g s l
  unfold attrsG
  have h1 := dropW_len spcX s
  split
  · rfl
  · rfl
  · rename_i r _ _
    cases hx : attrX (s.dropWhile spcX) with
    | none => rfl
    | some x =>
      obtain ⟨a, r'⟩ := x
      have := attrX_lt hx
      simp only [Option.bind_some]
      rw [h r' (by omega)]
theorem attrsX_eq (s : List UInt8) (l : List AtX) : attrsX s l = attrsG attrsX s l := by
  have := congrFun (runL_eq attrsG_local (d := fun _ => none) s) l
  exact this
theorem attrsX_lt : ∀ (n : Nat) {s : List UInt8} {l m : List AtX} {b : Bool} {r : List UInt8}, s.length ≤ n → attrsX s l = some (m, b, r) → r.length < s.length := by
  intro n
  induction n with
  | zero =>
    intro s l m b r hn h
    have : s = [] := List.length_eq_zero_iff.1 (by omega)
    subst this
    rw [attrsX_eq] at h
    simp [attrsG, attrX, nameX] at h
  | succ n ih =>
    intro s l m b r hn h
    rw [attrsX_eq] at h
    unfold attrsG at h
    have h1 := dropW_len spcX s
    split at h
    · rename_i q e
      cases h
      rw [e] at h1; simp at h1; omega
    · rename_i q e
      cases h
      rw [e] at h1; simp at h1; omega
    · obtain ⟨⟨a, r'⟩, h2, h3⟩ := Option.bind_eq_some_iff.1 h
      have h4 := attrX_lt h2
      simp only at h3
      split at h3
      · have := ih (by omega) h3
        omega
      · cases h3
theorem past_lt {p s r : List UInt8} (h : past p s = some r) : s = p ++ r ∧ r.length + p.length = s.length := by
  unfold past at h
  split at h
  · rename_i hp
    cases h
    obtain ⟨t, ht⟩ := List.isPrefixOf_iff_prefix.1 hp
    rw [← ht, List.drop_left]
    exact ⟨rfl, by simp; omega⟩
  · cases h
theorem tagX_lt {s : List UInt8} {l : List TkX} {r : List UInt8} (h : tagX s = some (l, r)) : r.length < s.length := by
  unfold tagX at h
  split at h
  · cases h
  · rename_i hn
    obtain ⟨⟨m, b, r'⟩, h1, h2⟩ := Option.map_eq_some_iff.1 h
    simp only [Prod.mk.injEq] at h2
    obtain ⟨_, rfl⟩ := h2
    have := attrsX_lt _ (Nat.le_refl _) h1
    have := nameX_ne hn
    omega
theorem endX_lt {s : List UInt8} {l : List TkX} {r : List UInt8} (h : endX s = some (l, r)) : r.length < s.length := by
  unfold endX at h
  split at h
  · cases h
  · rename_i hn
    have h1 := dropW_len spcX (nameX s).2
    have := nameX_ne hn
    split at h
    · rename_i r' e
      cases h
      rw [e] at h1; simp at h1; omega
    · cases h
theorem partX_lt {s : List UInt8} {p : PtX} {r : List UInt8} (h : partX s = some (p, r)) : r.length < s.length := by
  unfold partX at h
  have hm : ∀ {α : Type} {o : Option (α × List UInt8)} {q : List UInt8} {F : α × List UInt8 → PtX}, o.map (fun x => (F x, x.2)) = some (p, r) → (∀ a b, o = some (a, b) → b.length ≤ q.length) → r.length ≤ q.length := by
    intro α o q F h1 h2
    obtain ⟨⟨a, b⟩, h3, h4⟩ := Option.map_eq_some_iff.1 h1
    simp only [Prod.mk.injEq] at h4
    obtain ⟨_, rfl⟩ := h4
    exact h2 a b h3
  split at h
  · rename_i q e
    have := (past_lt e).2
    have := hm h (fun a b hh => (by have := (upTo_lt hh).1; omega : b.length ≤ q.length))
    simp [sComment] at *; omega
  split at h
  · rename_i q e
    have := (past_lt e).2
    have := hm h (fun a b hh => (by have := (upTo_lt hh).1; omega : b.length ≤ q.length))
    simp [sInstr] at *; omega
  split at h
  · rename_i q e
    have := (past_lt e).2
    obtain ⟨⟨a, b⟩, h3, h4⟩ := Option.bind_eq_some_iff.1 h
    simp only at h4
    split at h4
    · cases h4
    · cases h4
      have := (upTo_lt h3).1
      simp [sDoc] at *; omega
  split at h
  · rename_i q e
    have := (past_lt e).2
    have := hm h (fun a b hh => (by have := (upTo_lt hh).1; omega : b.length ≤ q.length))
    simp [sData] at *; omega
  split at h
  · rename_i q e
    have := (past_lt e).2
    have := hm h (fun a b hh => (by have := endX_lt hh; omega : b.length ≤ q.length))
    simp [sEnd] at *; omega
  split at h
  · rename_i q e
    have := (past_lt e).2
    have := hm h (fun a b hh => (by have := tagX_lt hh; omega : b.length ≤ q.length))
    simp at *; omega
  split at h
  · rename_i q e
    have := (past_lt e).2
    have := hm h (fun a b hh => (by have := refX_lt hh; omega : b.length ≤ q.length))
    simp at *; omega
  split at h
  · cases h
  · cases h; simp
theorem partsG_local : Local partsG := by
  intro f g s h
  cases s with
  | nil => rfl
  | cons c r =>
    simp only [partsG]
    cases hx : partX (c :: r) with
    | none => rfl
    | some x =>
      obtain ⟨p, r'⟩ := x
      have := partX_lt hx
      simp only
      rw [h r' this]
theorem partsX_nil : partsX [] = ([], none) := rfl
theorem partsX_bad {s : List UInt8} (hs : s ≠ []) (h : partX s = none) : partsX s = ([], some s) := by
  unfold partsX
  rw [runL_eq partsG_local]
  cases s with
  | nil => exact absurd rfl hs
  | cons c r => simp only [partsG, h]
theorem partX_nil : partX [] = none := by decide +kernel
theorem partsX_some {s r : List UInt8} {p : PtX} (h : partX s = some (p, r)) : partsX s = (p :: (partsX r).1, (partsX r).2) := by
  unfold partsX
  rw [runL_eq partsG_local]
  cases s with
  | nil => rw [partX_nil] at h; cases h
  | cons c q => simp only [partsG, h]
theorem tokX_nil (w : List UInt8) : tokX w [] = endW w := rfl
/-! ### the chapter's examples -/
theorem ex_read1 : readX [60, 97, 32, 98, 61, 34, 49, 38, 97, 109, 112, 59, 50, 34, 62, 120, 60, 33, 45, 45, 32, 121, 32, 45, 45, 62, 60, 33, 91, 67, 68, 65, 84, 65, 91, 60, 122, 62, 93, 93, 62, 60, 47, 97, 62] = (some [openT [97] [⟨[98], [49, 38, 50]⟩], wordsT [120, 60, 122, 62], closeT [97]], 0) := by decide +kernel
theorem ex_read2 : readX [60, 97, 47, 62] = (some [openT [97] [], closeT [97]], 0) := by decide +kernel
theorem ex_read3 : readX [60, 97, 32, 98, 61, 49, 62] = (none, 0) := by decide +kernel
theorem ex_read4 : readX [120, 38, 121, 59] = (none, 1) := by decide +kernel
theorem ex_read5 : readX [60, 97, 32, 98, 61, 34, 49, 34, 32, 98, 61, 34, 50, 34, 62] = (none, 0) := by decide +kernel
theorem ex_read6 : readX [60, 97] = (none, 0) := by decide +kernel
theorem ex_esc : escX [97, 38, 39] = [97, 38, 97, 109, 112, 59, 38, 97, 112, 111, 115, 59] := by decide +kernel
end Go.Proofs.YtaefdknaidbplaaGreatDoor
