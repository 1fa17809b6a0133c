/-
  RlMath, RlLaws, RlParts, RlParts2, RlRep, RlShown, RlLogOf, RlBox, RlBounds, in one text.
-/
import Derived.Test.YtiffdhihhggkhaaMq0
import Derived.Test.YtiffdhihhggkhaaMq2
import Derived.Deep.RegionHeld3
import Derived.Deep.DeepCutAuto
import Derived.Deep.CutRange
import Derived.BigQuiet
/-
  LAYER 8 (rlog): what a log is, and what each call makes of it: mathematics of lists.
-/
namespace Go.Proofs.Ytiffdhihhggkhaa
open Go.RowKit
set_option linter.unusedVariables false
set_option maxRecDepth 100000

/-- A log: its base, its entries. -/
structure Rl where
  bi : Int
  bt : Int
  vot : List Int
  bd : ByteArray
  ents : List Me
def Rl.last (g : Rl) : Int := g.bi + g.ents.length
/-- Its entries' numbers rise by one. -/
def Rises (b : Int) (l : List Me) : Prop := ∀ (k : Nat) x, l[k]? = some x → x.idx = b + 1 + k
structure Rl.Ok (g : Rl) : Prop where
  pos : 0 ≤ g.bi
  rises : Rises g.bi g.ents
theorem Rises.nil (b : Int) : Rises b [] := fun k x h => by simp at h
theorem Rises.cons {b : Int} {x : Me} {l : List Me} (hx : x.idx = b + 1) (h : Rises (b + 1) l) : Rises b (x :: l) := fun k y hy => by
  cases k with
  | zero => simp at hy; subst hy; rw [hx]; simp
  | succ k => have := h k y (by simpa using hy); rw [this]; push_cast; omega
theorem Rises.tail {b : Int} {x : Me} {l : List Me} (h : Rises b (x :: l)) : x.idx = b + 1 ∧ Rises (b + 1) l := ⟨by have := h 0 x rfl; simpa using this, fun k y hy => by have := h (k + 1) y (by simpa using hy); rw [this]; push_cast; omega⟩
theorem Rises.append {b : Int} {l m : List Me} (h : Rises b l) (h2 : Rises (b + l.length) m) : Rises b (l ++ m) := fun k x hx => by
  rw [List.getElem?_append] at hx
  split at hx
  · exact h k x hx
  · have := h2 _ x hx
    rw [this]
    omega
theorem Rises.take {b : Int} {l : List Me} (h : Rises b l) (n : Nat) : Rises b (l.take n) := fun k x hx => by
  rw [List.getElem?_take] at hx
  split at hx
  · exact h k x hx
  · cases hx
theorem Rises.drop {b : Int} {l : List Me} (h : Rises b l) (n : Nat) : Rises (b + n) (l.drop n) := fun k x hx => by
  rw [List.getElem?_drop] at hx
  rw [h _ x hx]
  push_cast
  omega
/-- New: the entries that have the next numbers. -/
def nextE (last : Int) : List Me → List Me
  | [] => []
  | e :: r => if last + 1 < e.idx then [] else if e.idx = last + 1 then e :: nextE (last + 1) r else nextE last r
def newL (bi bt : Int) (vot : List Int) (bd : ByteArray) (l : List Me) : Rl := ⟨bi, bt, vot, bd, nextE bi l⟩
theorem nextE_rises : ∀ (l : List Me) (b : Int), Rises b (nextE b l)
  | [], b => Rises.nil b
  | e :: r, b => by
    unfold nextE
    split
    · exact Rises.nil b
    · split
      · rename_i h; exact (nextE_rises r (b + 1)).cons h
      · exact nextE_rises r b
theorem nextE_self : ∀ (l : List Me) (b : Int), Rises b l → nextE b l = l
  | [], b, h => rfl
  | e :: r, b, h => by
    obtain ⟨h1, h2⟩ := h.tail
    unfold nextE
    rw [if_neg (by omega), if_pos h1, nextE_self r (b + 1) h2]
theorem nextE_len : ∀ (l : List Me) (b : Int), (nextE b l).length ≤ l.length
  | [], b => Nat.le_refl _
  | e :: r, b => by
    unfold nextE
    split
    · exact Nat.zero_le _
    · split
      · have := nextE_len r (b + 1); simp only [List.length_cons]; omega
      · have := nextE_len r b; simp only [List.length_cons]; omega
theorem newL_ok (bi bt : Int) (vot : List Int) (bd : ByteArray) (l : List Me) (h : 0 ≤ bi) : (newL bi bt vot bd l).Ok := ⟨h, nextE_rises l bi⟩
/-- Term. -/
def termL (g : Rl) (i : Int) : Option Int := if i = g.bi then some g.bt else if i < g.bi ∨ g.last < i then none else (g.ents[(i - g.bi - 1).toNat]?).map (·.term)
theorem termL_some {g : Rl} {i : Int} (h1 : g.bi ≤ i) (h2 : i ≤ g.last) : ∃ t, termL g i = some t := by
  unfold termL
  by_cases hi : i = g.bi
  · rw [if_pos hi]; exact ⟨_, rfl⟩
  · rw [if_neg hi, if_neg (by omega)]
    have : (i - g.bi - 1).toNat < g.ents.length := by unfold Rl.last at h2; omega
    rw [List.getElem?_eq_getElem this]
    exact ⟨_, rfl⟩
theorem termL_none {g : Rl} {i : Int} (h : i < g.bi ∨ g.last < i) : termL g i = none := by
  unfold termL
  have : i ≠ g.bi := by unfold Rl.last at h; omega
  rw [if_neg this, if_pos h]
theorem termL_at {g : Rl} (k : Nat) {x : Me} (h : g.ents[k]? = some x) : termL g (g.bi + 1 + k) = some x.term := by
  have hk : k < g.ents.length := (List.getElem?_eq_some_iff.1 h).1
  unfold termL Rl.last
  rw [if_neg (by omega), if_neg (by omega), show (g.bi + 1 + (k : Int) - g.bi - 1).toNat = k by omega, h]
  rfl
def lastT (g : Rl) : Int := (termL g g.last).getD 0
/-- Slice. -/
def sliceL (g : Rl) (fr most : Int) : List Me := if fr ≤ g.bi then [] else (g.ents.drop (fr - g.bi - 1).toNat).take most.toNat
theorem sliceL_len (g : Rl) (fr most : Int) : (sliceL g fr most).length ≤ g.ents.length := by
  unfold sliceL
  split
  · exact Nat.zero_le _
  · rw [List.length_take, List.length_drop]; omega
theorem sliceL_all {g : Rl} {most : Int} (h : (g.ents.length : Int) ≤ most) : sliceL g (g.bi + 1) most = g.ents := by
  unfold sliceL
  rw [if_neg (by omega), show (g.bi + 1 - g.bi - 1).toNat = 0 by omega, List.drop_zero, List.take_of_length_le (by omega)]
theorem sliceL_from {g : Rl} {k : Nat} {most : Int} (h : (g.ents.length : Int) ≤ most) : sliceL g (g.bi + 1 + k) most = g.ents.drop k := by
  unfold sliceL
  rw [if_neg (by omega), show (g.bi + 1 + (k : Int) - g.bi - 1).toNat = k by omega, List.take_of_length_le (by rw [List.length_drop]; omega)]
/-- The voters that an entry sets. -/
def setsE (e : Me) : Option (List Int) :=
  if e.kind = 3 then match dV e.dt.data.toList with
    | some (l, []) => if risingF 0 l = true then some l else none
    | _ => none
  else none
def votersIn (o : List Int) (i : Int) : List Me → List Int
  | [] => o
  | e :: r => votersIn (match setsE e with | some l => if e.idx ≤ i then l else o | none => o) i r
def votersL (g : Rl) (i : Int) : List Int := votersIn g.vot i g.ents
theorem votersIn_append (l m : List Me) (o : List Int) (i : Int) : votersIn o i (l ++ m) = votersIn (votersIn o i l) i m := by
  induction l generalizing o with
  | nil => rfl
  | cons e r ih => exact ih _
theorem votersIn_same : ∀ (l : List Me) (o : List Int) (i j : Int), (∀ e ∈ l, e.idx ≤ i ∧ e.idx ≤ j) → votersIn o i l = votersIn o j l
  | [], o, i, j, h => rfl
  | e :: r, o, i, j, h => by
    unfold votersIn
    obtain ⟨h1, h2⟩ := h e (by simp)
    have e1 : (match setsE e with | some l => if e.idx ≤ i then l else o | none => o) = (match setsE e with | some l => if e.idx ≤ j then l else o | none => o) := by
      cases setsE e with
      | none => rfl
      | some l => simp only [if_pos h1, if_pos h2]
    rw [e1]
    exact votersIn_same r _ i j (fun x hx => h x (by simp [hx]))
theorem votersIn_none : ∀ (l : List Me) (o : List Int) (i : Int), (∀ e ∈ l, i < e.idx) → votersIn o i l = o
  | [], o, i, h => rfl
  | e :: r, o, i, h => by
    unfold votersIn
    have h1 := h e (by simp)
    have e1 : (match setsE e with | some l => if e.idx ≤ i then l else o | none => o) = o := by
      cases setsE e with
      | none => rfl
      | some l => simp only [if_neg (by omega : ¬ e.idx ≤ i)]
    rw [e1]
    exact votersIn_none r o i (fun x hx => h x (by simp [hx]))
/-- Add. -/
def addE (g : Rl) (t k : Int) (d : ByteArray) : Me := ⟨g.last + 1, t, k, d⟩
def addL (g : Rl) (t k : Int) (d : ByteArray) : Rl := { g with ents := g.ents ++ [addE g t k d] }
theorem addL_ok {g : Rl} (h : g.Ok) (t k : Int) (d : ByteArray) : (addL g t k d).Ok := ⟨h.pos, h.rises.append (Rises.cons (by show g.last + 1 = _; unfold Rl.last; omega) (Rises.nil _))⟩
/-- Newer. -/
def newerL (g : Rl) (i t : Int) : Bool := decide (lastT g < t) || (decide (t = lastT g) && decide (g.last ≤ i))
/-- Match. -/
def reidx (index : Int) : List Me → List Me
  | [] => []
  | e :: r => { e with idx := index + 1 } :: reidx (index + 1) r
theorem reidx_len : ∀ (l : List Me) (i : Int), (reidx i l).length = l.length
  | [], i => rfl
  | e :: r, i => by simp [reidx, reidx_len r]
theorem reidx_rises : ∀ (l : List Me) (i : Int), Rises i (reidx i l)
  | [], i => Rises.nil i
  | e :: r, i => (reidx_rises r (i + 1)).cons rfl
theorem reidx_self : ∀ (l : List Me) (i : Int), Rises i l → reidx i l = l
  | [], i, h => rfl
  | e :: r, i, h => by
    obtain ⟨h1, h2⟩ := h.tail
    unfold reidx
    rw [reidx_self r (i + 1) h2, ← h1]
theorem reidx_drop : ∀ (l : List Me) (i : Int) (k : Nat), (reidx i l).drop k = reidx (i + k) (l.drop k)
  | [], i, k => by simp [reidx]
  | e :: r, i, 0 => by simp
  | e :: r, i, k + 1 => by
    rw [show reidx i (e :: r) = { e with idx := i + 1 } :: reidx (i + 1) r from rfl, List.drop_succ_cons, List.drop_succ_cons, reidx_drop r (i + 1) k, show i + 1 + (k : Int) = i + ((k + 1 : Nat) : Int) by push_cast; omega]
theorem reidx_get : ∀ (l : List Me) (i : Int) (k : Nat), (reidx i l)[k]? = (l[k]?).map fun e => { e with idx := i + 1 + k }
  | [], i, k => by simp [reidx]
  | e :: r, i, 0 => by simp [reidx]
  | e :: r, i, k + 1 => by
    unfold reidx
    rw [List.getElem?_cons_succ, List.getElem?_cons_succ, reidx_get r (i + 1) k]
    congr 1
    funext e
    congr 1
    push_cast
    omega
/-- Is the entry of Index i, of this Term, fixed or there? -/
def hasE (g : Rl) (fixed i t : Int) : Bool := decide (i ≤ fixed) || decide (termL g i = some t)
/-- The first that the log has not, from the k-th on. -/
def diffAt (g : Rl) (fixed : Int) : Int → List Me → Option Nat
  | i, [] => none
  | i, e :: r => if hasE g fixed (i + 1) e.term = true then (diffAt g fixed (i + 1) r).map (· + 1) else some 0
def matchL (g : Rl) (index term fixed : Int) (l : List Me) : (Int × Int × Bool) × Rl :=
  if g.last < index then ((g.last, 0, false), g)
  else if fixed < index ∧ termL g index ≠ some term then ((index - 1, 0, false), g)
  else match diffAt g fixed index l with
    | none => ((index + l.length, 0, true), g)
    | some k => ((index + l.length, index + 1 + k, true), { g with ents := g.ents.take (index + k - g.bi).toNat ++ reidx (index + k) (l.drop k) })
theorem diffAt_some : ∀ (l : List Me) (g : Rl) (fixed i : Int) (k : Nat), diffAt g fixed i l = some k → k < l.length ∧ (∀ (j : Nat) e, j < k → l[j]? = some e → hasE g fixed (i + 1 + j) e.term = true) ∧ ∃ e, l[k]? = some e ∧ hasE g fixed (i + 1 + k) e.term = false
  | [], g, fixed, i, k, h => by simp [diffAt] at h
  | e :: r, g, fixed, i, k, h => by
    unfold diffAt at h
    split at h
    · rename_i hc
      obtain ⟨k', h1, rfl⟩ := Option.map_eq_some_iff.1 h
      obtain ⟨h2, h3, e', h4, h5⟩ := diffAt_some r g fixed (i + 1) k' h1
      refine ⟨by simp only [List.length_cons]; omega, fun j x hj hx => ?_, e', by simpa using h4, by rw [← h5]; congr 1; push_cast; omega⟩
      cases j with
      | zero => simp at hx; subst hx; rw [← hc]; congr 1; simp
      | succ j => have := h3 j x (by omega) (by simpa using hx); rw [← this]; congr 1; push_cast; omega
    · rename_i hc
      simp only [Option.some.injEq] at h
      subst h
      exact ⟨by simp, fun j x hj => by omega, e, rfl, by simpa using hc⟩
theorem diffAt_none : ∀ (l : List Me) (g : Rl) (fixed i : Int), diffAt g fixed i l = none ↔ ∀ (j : Nat) e, l[j]? = some e → hasE g fixed (i + 1 + j) e.term = true
  | [], g, fixed, i => by simp [diffAt]
  | e :: r, g, fixed, i => by
    unfold diffAt
    constructor
    · intro h
      split at h
      · rename_i hc
        have h1 := (diffAt_none r g fixed (i + 1)).1 (by simpa using h)
        intro j x hx
        cases j with
        | zero => simp at hx; subst hx; rw [← hc]; congr 1; simp
        | succ j => have := h1 j x (by simpa using hx); rw [← this]; congr 1; push_cast; omega
      · cases h
    · intro h
      rw [if_pos (by have := h 0 e rfl; rw [← this]; congr 1; simp)]
      rw [(diffAt_none r g fixed (i + 1)).2 (fun j x hx => by have := h (j + 1) x (by simpa using hx); rw [← this]; congr 1; push_cast; omega)]
      rfl
/-- Where the first other entry lies. -/
theorem diffAt_where {g : Rl} {fixed index : Int} {l : List Me} {k : Nat} (h : diffAt g fixed index l = some k) (hi : index ≤ g.last) (hf : g.bi ≤ fixed) (hl : fixed ≤ g.last) : fixed < index + 1 + k ∧ index + k ≤ g.last := by
  obtain ⟨h1, h2, e, h3, h4⟩ := diffAt_some l g fixed index k h
  unfold hasE at h4
  simp only [Bool.or_eq_false_iff, decide_eq_false_iff_not] at h4
  refine ⟨by omega, ?_⟩
  cases k with
  | zero => simpa using hi
  | succ k =>
    obtain ⟨x, hx⟩ : ∃ x, l[k]? = some x := ⟨_, List.getElem?_eq_getElem (by omega)⟩
    have h5 := h2 k x (by omega) hx
    unfold hasE at h5
    simp only [Bool.or_eq_true, decide_eq_true_eq] at h5
    rcases Int.lt_or_le g.last (index + 1 + (k : Int)) with hl' | hl'
    · rcases h5 with h5 | h5
      · have := h4.1; push_cast at this ⊢; omega
      · rw [termL_none (.inr hl')] at h5; cases h5
    · push_cast; omega
theorem match_ok {g : Rl} (h : g.Ok) {index term fixed : Int} {l : List Me} (hf : g.bi ≤ fixed) (hl : fixed ≤ g.last) : (matchL g index term fixed l).2.Ok := by
  unfold matchL
  split
  · exact h
  · split
    · exact h
    · split
      · exact h
      · rename_i h1 h2 k hk
        obtain ⟨h3, h4⟩ := diffAt_where hk (by omega) hf hl
        refine ⟨h.pos, (h.rises.take _).append ?_⟩
        have : (((g.ents.take (index + (k : Int) - g.bi).toNat).length : Nat) : Int) = index + k - g.bi := by
          rw [List.length_take]
          unfold Rl.last at h4
          omega
        rw [this, show g.bi + (index + (k : Int) - g.bi) = index + k by omega]
        exact reidx_rises _ _
/-- Compact, Restore. -/
def compactL (g : Rl) (i : Int) (d : ByteArray) : Int × Rl := if i ≤ g.bi ∨ g.last < i then (2, g) else (0, ⟨i, (termL g i).getD 0, votersL g i, d, g.ents.drop (i - g.bi).toNat⟩)
def restoreL (g : Rl) (bi bt : Int) (vot : List Int) (bd : ByteArray) : Bool × Rl := (decide (termL g bi = some bt), ⟨bi, bt, vot, bd, if termL g bi = some bt then g.ents.drop (bi - g.bi).toNat else []⟩)
theorem compact_ok {g : Rl} (h : g.Ok) (i : Int) (d : ByteArray) : (compactL g i d).2.Ok := by
  unfold compactL
  split
  · exact h
  · have hp := h.pos
    refine ⟨by show 0 ≤ i; omega, ?_⟩
    have := h.rises.drop (i - g.bi).toNat
    rw [Int.toNat_of_nonneg (by omega), show g.bi + (i - g.bi) = i by omega] at this
    exact this
theorem restore_ok {g : Rl} (h : g.Ok) (bi bt : Int) (vot : List Int) (bd : ByteArray) (hb : 0 ≤ bi) : (restoreL g bi bt vot bd).2.Ok := by
  refine ⟨hb, ?_⟩
  show Rises bi (if termL g bi = some bt then _ else _)
  split
  · rename_i hk
    have hge : g.bi ≤ bi := by
      rcases Int.lt_or_le bi g.bi with h1 | h1
      · rw [termL_none (.inl h1)] at hk; cases hk
      · exact h1
    have := h.rises.drop (bi - g.bi).toNat
    rw [Int.toNat_of_nonneg (by omega), show g.bi + (bi - g.bi) = bi by omega] at this
    exact this
  · exact Rises.nil _
end Go.Proofs.Ytiffdhihhggkhaa

/-
  LAYER 8 (rlog): the laws, as mathematics of lists.
-/
namespace Go.Proofs.Ytiffdhihhggkhaa
open Go.RowKit
set_option linter.unusedVariables false
set_option maxRecDepth 100000

/-- The entry of an Index. -/
def atE (g : Rl) (i : Int) : Option Me := if i ≤ g.bi then none else g.ents[(i - g.bi - 1).toNat]?
theorem slice_one (g : Rl) (i : Int) : sliceL g i 1 = (atE g i).toList := by
  unfold sliceL atE
  split
  · rfl
  · rw [show ((1 : Int)).toNat = 1 from rfl]
    cases h : g.ents[(i - g.bi - 1).toNat]? with
    | none =>
      rw [List.getElem?_eq_none_iff] at h
      rw [List.drop_eq_nil_of_le h]
      rfl
    | some x =>
      obtain ⟨hl, he⟩ := List.getElem?_eq_some_iff.1 h
      rw [List.drop_eq_getElem_cons hl, he]
      rfl
theorem termL_atE {g : Rl} {i : Int} (h : g.bi < i) : termL g i = (atE g i).map (·.term) := by
  unfold termL atE
  rw [if_neg (by omega), if_neg (by omega : ¬ i ≤ g.bi)]
  split
  · rename_i hc
    have : g.ents.length ≤ (i - g.bi - 1).toNat := by unfold Rl.last at hc; omega
    rw [List.getElem?_eq_none_iff.2 this]
    rfl
  · rfl
/-! ### Match -/
theorem match_false {g : Rl} {index term fixed n f : Int} {l : List Me} {g' : Rl} (h : matchL g index term fixed l = ((n, f, false), g')) : f = 0 ∧ g' = g ∧ n < index := by
  unfold matchL at h
  split at h
  · cases h; exact ⟨rfl, rfl, by assumption⟩
  · split at h
    · cases h; exact ⟨rfl, rfl, by omega⟩
    · split at h <;> cases h
structure Matched (g : Rl) (index term fixed : Int) (l : List Me) (n f : Int) (g' : Rl) : Prop where
  num : n = index + l.length
  le : index ≤ g.last
  term : fixed < index → termL g index = some term
  or : (f = 0 ∧ g' = g ∧ diffAt g fixed index l = none) ∨ (∃ k, diffAt g fixed index l = some k ∧ f = index + 1 + (k : Nat) ∧ g' = { g with ents := g.ents.take (index + (k : Int) - g.bi).toNat ++ reidx (index + k) (l.drop k) })
theorem match_true {g : Rl} {index term fixed n f : Int} {l : List Me} {g' : Rl} (h : matchL g index term fixed l = ((n, f, true), g')) : Matched g index term fixed l n f g' := by
  unfold matchL at h
  split at h
  · cases h
  · rename_i h1
    split at h
    · cases h
    · rename_i h2
      have h3 : fixed < index → termL g index = some term := fun hf => by
        by_cases ht : termL g index = some term
        · exact ht
        · exact absurd ⟨hf, ht⟩ h2
      split at h
      · rename_i hd
        cases h
        exact ⟨rfl, by omega, h3, .inl ⟨rfl, rfl, hd⟩⟩
      · rename_i k hd
        cases h
        exact ⟨rfl, by omega, h3, .inr ⟨k, hd, rfl, rfl⟩⟩
section
variable {g : Rl} {index term fixed n f : Int} {l : List Me} {g' : Rl}
theorem Matched.zero (h : Matched g index term fixed l n f g') (hf : g.bi ≤ fixed) (h0 : 0 ≤ g.bi) (hfl : fixed ≤ g.last) : (f = 0 → g' = g) ∧ 0 ≤ f := by
  rcases h.or with ⟨h1, h2, _⟩ | ⟨k, hd, h1, h2⟩
  · exact ⟨fun _ => h2, by omega⟩
  · obtain ⟨h3, h4⟩ := diffAt_where hd h.le hf hfl
    exact ⟨fun e => by omega, by omega⟩
/-- What stands at an Index behind it. -/
theorem Matched.at (h : Matched g index term fixed l n f g') (h0 : 0 ≤ g.bi) (hf : g.bi ≤ fixed) (hfl : fixed ≤ g.last) (hr : Rises index l) : g'.bi = g.bi ∧ (∀ i, (f = 0 ∨ i < f) → atE g' i = atE g i) ∧ ∀ (j : Nat) e, l[j]? = some e → f ≠ 0 → f ≤ e.idx → atE g' e.idx = some e := by
  rcases h.or with ⟨h1, h2, _⟩ | ⟨k, hd, h1, h2⟩
  · subst h2
    exact ⟨rfl, fun _ _ => rfl, fun _ _ _ hn => absurd h1 hn⟩
  · obtain ⟨h3, h4⟩ := diffAt_where hd h.le hf hfl
    have hlen : (g.ents.take (index + (k : Int) - g.bi).toNat).length = (index + (k : Int) - g.bi).toNat := by
      rw [List.length_take]
      unfold Rl.last at h4
      omega
    subst h2
    refine ⟨rfl, fun i hi => ?_, fun j e he hn hle => ?_⟩
    · unfold atE
      show (if i ≤ g.bi then _ else (g.ents.take (index + (k : Int) - g.bi).toNat ++ reidx (index + k) (l.drop k))[(i - g.bi - 1).toNat]?) = _
      split
      · rfl
      · rw [List.getElem?_append_left (by rw [hlen]; omega), List.getElem?_take_of_lt (by omega)]
    · have hj := hr j e he
      have hjl : j < l.length := (List.getElem?_eq_some_iff.1 he).1
      unfold atE
      show (if e.idx ≤ g.bi then _ else (g.ents.take (index + (k : Int) - g.bi).toNat ++ reidx (index + k) (l.drop k))[(e.idx - g.bi - 1).toNat]?) = _
      rw [if_neg (by omega), List.getElem?_append_right (by rw [hlen]; omega), hlen, reidx_self _ _ (hr.drop k), List.getElem?_drop, show k + ((e.idx - g.bi - 1).toNat - (index + (k : Int) - g.bi).toNat) = j by omega]
      exact he
theorem Matched.has (h : Matched g index term fixed l n f g') (h0 : 0 ≤ g.bi) (hf : g.bi ≤ fixed) (hfl : fixed ≤ g.last) (hr : Rises index l) (j : Nat) (e : Me) (he : l[j]? = some e) (hx : fixed < e.idx) : ∃ s, atE g' e.idx = some s ∧ s.term = e.term ∧ (f ≠ 0 → f ≤ e.idx → s = e) := by
  obtain ⟨hb, h1, h2⟩ := h.at h0 hf hfl hr
  by_cases hc : f ≠ 0 ∧ f ≤ e.idx
  · exact ⟨e, h2 j e he hc.1 hc.2, rfl, fun _ _ => rfl⟩
  · have h3 : f = 0 ∨ e.idx < f := by omega
    have hj := hr j e he
    have hE : hasE g fixed (index + 1 + j) e.term = true := by
      rcases h.or with ⟨_, _, hd⟩ | ⟨k, hd, hfk, _⟩
      · exact (diffAt_none l g fixed index).1 hd j e he
      · obtain ⟨h4, _⟩ := diffAt_where hd h.le hf hfl
        rcases h3 with h3 | h3
        · have := h.le; omega
        · exact (diffAt_some l g fixed index k hd).2.1 j e (by omega) he
    unfold hasE at hE
    simp only [Bool.or_eq_true, decide_eq_true_eq] at hE
    have ht : termL g e.idx = some e.term := by
      rcases hE with hE | hE
      · omega
      · rw [hj]; exact hE
    rw [termL_atE (by omega)] at ht
    obtain ⟨s, hs, hst⟩ := Option.map_eq_some_iff.1 ht
    exact ⟨s, by rw [h1 _ h3]; exact hs, hst, fun hn hle => absurd ⟨hn, hle⟩ hc⟩
theorem Matched.old (h : Matched g index term fixed l n f g') (h0 : 0 ≤ g.bi) (hf : g.bi ≤ fixed) (hfl : fixed ≤ g.last) (hr : Rises index l) (hg : Rises g.bi g.ents) (i : Nat) (x y : Me) (hx : g.ents[i]? = some x) (hy : g'.ents[i]? = some y) (hc : f = 0 ∨ x.idx < f) : x = y := by
  obtain ⟨hb, h1, h2⟩ := h.at h0 hf hfl hr
  have hi := hg i x hx
  have e1 : atE g x.idx = some x := by
    unfold atE
    rw [if_neg (by omega), show (x.idx - g.bi - 1).toNat = i by omega]
    exact hx
  have e2 : atE g' x.idx = some y := by
    unfold atE
    rw [hb, if_neg (by omega), show (x.idx - g.bi - 1).toNat = i by omega]
    exact hy
  rw [h1 _ hc, e1] at e2
  cases e2
  rfl
theorem Matched.last (h : Matched g index term fixed l n f g') (hf : g.bi ≤ fixed) (hfl : fixed ≤ g.last) : index ≤ g'.last ∧ (g'.ents.length : Int) ≤ g.ents.length + l.length := by
  rcases h.or with ⟨h1, h2, _⟩ | ⟨k, hd, h1, h2⟩
  · subst h2
    exact ⟨h.le, by omega⟩
  · obtain ⟨h3, h4⟩ := diffAt_where hd h.le hf hfl
    have hk := (diffAt_some l g fixed index k hd).1
    have hle := h.le
    subst h2
    unfold Rl.last at h4 hle ⊢
    simp only [List.length_append, List.length_take, reidx_len, List.length_drop]
    constructor <;> omega
theorem Matched.again (h : Matched g index term fixed l n f g') (h0 : 0 ≤ g.bi) (hf : g.bi ≤ fixed) (hfl : fixed ≤ g.last) (hr : Rises index l) : matchL g' index term fixed l = ((n, 0, true), g') := by
  obtain ⟨hb, h1, h2⟩ := h.at h0 hf hfl hr
  have hl := (h.last hf hfl).1
  have ht : ¬ (fixed < index ∧ termL g' index ≠ some term) := fun hc => by
    have h3 := h.term hc.1
    apply hc.2
    rw [← h3, termL_atE (by omega), termL_atE (by omega), h1 index (by
      rcases h.or with ⟨h4, _⟩ | ⟨k, _, h4, _⟩
      · exact .inl h4
      · exact .inr (by omega))]
  have hd : diffAt g' fixed index l = none := (diffAt_none l g' fixed index).2 (fun j e he => by
    have hj := hr j e he
    unfold hasE
    simp only [Bool.or_eq_true, decide_eq_true_eq]
    rcases Int.lt_or_le fixed (index + 1 + (j : Int)) with hc | hc
    · right
      obtain ⟨s, hs, hst, _⟩ := h.has h0 hf hfl hr j e he (by omega)
      rw [termL_atE (by rw [hb]; omega), ← hj, hs]
      simp [hst]
    · exact .inl hc)
  unfold matchL
  rw [if_neg (by omega), if_neg ht, hd, h.num]
end
/-! ### Compact -/
theorem compact_bad {g : Rl} {i : Int} (d : ByteArray) (h : i = g.bi ∨ g.last < i) : compactL g i d = (2, g) := by
  unfold compactL
  rw [if_pos (by omega)]
theorem compact_good {g : Rl} {i : Int} (d : ByteArray) (h1 : g.bi < i) (h2 : i ≤ g.last) : compactL g i d = (0, ⟨i, (termL g i).getD 0, votersL g i, d, g.ents.drop (i - g.bi).toNat⟩) := by
  unfold compactL
  rw [if_neg (by omega)]
theorem compact_last {g : Rl} {i : Int} (d : ByteArray) (h1 : g.bi < i) (h2 : i ≤ g.last) : (compactL g i d).2.last = g.last := by
  rw [compact_good d h1 h2]
  unfold Rl.last at h2 ⊢
  simp only [List.length_drop]
  omega
theorem compact_term {g : Rl} {i : Int} (d : ByteArray) (h1 : g.bi < i) (h2 : i ≤ g.last) (k : Int) (hk : i ≤ k) : termL (compactL g i d).2 k = termL g k := by
  rw [compact_good d h1 h2]
  by_cases he : k = i
  · subst he
    obtain ⟨t, ht⟩ := termL_some (g := g) (i := k) (by omega) h2
    rw [ht]
    unfold termL
    rw [if_pos rfl]
    rfl
  · have e : atE ⟨i, (termL g i).getD 0, votersL g i, d, g.ents.drop (i - g.bi).toNat⟩ k = atE g k := by
      unfold atE
      show (if k ≤ i then none else (g.ents.drop (i - g.bi).toNat)[(k - i - 1).toNat]?) = _
      rw [if_neg (by omega), if_neg (by omega), List.getElem?_drop, show (i - g.bi).toNat + (k - i - 1).toNat = (k - g.bi - 1).toNat by omega]
    exact (termL_atE (g := ⟨i, (termL g i).getD 0, votersL g i, d, g.ents.drop (i - g.bi).toNat⟩) (by show i < k; omega)).trans ((congrArg (Option.map (·.term)) e).trans (termL_atE (by omega)).symm)
theorem compact_voters {g : Rl} {i : Int} (d : ByteArray) (hr : Rises g.bi g.ents) (h1 : g.bi < i) (h2 : i ≤ g.last) (k : Int) (hk : i ≤ k) : votersL (compactL g i d).2 k = votersL g k := by
  rw [compact_good d h1 h2]
  show votersIn (votersIn g.vot i g.ents) k (g.ents.drop (i - g.bi).toNat) = votersIn g.vot k g.ents
  obtain ⟨m, hm⟩ : ∃ m, (i - g.bi).toNat = m := ⟨_, rfl⟩
  rw [hm]
  have hA : ∀ e ∈ g.ents.take m, e.idx ≤ i := fun e he => by
    obtain ⟨j, hj⟩ := List.getElem?_of_mem he
    have h3 := hr.take m j e hj
    have h4 := (List.getElem?_eq_some_iff.1 hj).1
    rw [List.length_take] at h4
    omega
  have hB : ∀ e ∈ g.ents.drop m, i < e.idx := fun e he => by
    obtain ⟨j, hj⟩ := List.getElem?_of_mem he
    have h3 := hr.drop m j e hj
    omega
  have e1 : votersIn g.vot i g.ents = votersIn g.vot i (g.ents.take m) := by
    conv => lhs; rw [← List.take_append_drop m g.ents]
    rw [votersIn_append, votersIn_none _ _ _ hB]
  have e2 : votersIn g.vot k g.ents = votersIn (votersIn g.vot k (g.ents.take m)) k (g.ents.drop m) := by
    conv => lhs; rw [← List.take_append_drop m g.ents]
    rw [votersIn_append]
  rw [e1, e2, votersIn_same (g.ents.take m) g.vot i k (fun e he => ⟨hA e he, by have := hA e he; omega⟩)]
theorem compact_slice {g : Rl} {i : Int} (d : ByteArray) (h1 : g.bi < i) (h2 : i ≤ g.last) (most : Int) : sliceL (compactL g i d).2 (i + 1) most = sliceL g (i + 1) most ∧ sliceL (compactL g i d).2 i most = [] := by
  rw [compact_good d h1 h2]
  unfold sliceL
  constructor
  · show (if i + 1 ≤ i then _ else ((g.ents.drop (i - g.bi).toNat).drop (i + 1 - i - 1).toNat).take most.toNat) = _
    rw [if_neg (by omega), if_neg (by omega), show (i + 1 - i - 1).toNat = 0 by omega, List.drop_zero, show (i + 1 - g.bi - 1).toNat = (i - g.bi).toNat by omega]
  · show (if i ≤ i then _ else _) = _
    rw [if_pos (Int.le_refl i)]
/-! ### Restore -/
theorem restore_keep {g : Rl} {bi bt : Int} (vot : List Int) (bd : ByteArray) : (restoreL g bi bt vot bd).1 = ((termL g bi).isSome && decide ((termL g bi).getD 0 = bt)) := by
  unfold restoreL
  cases termL g bi with
  | none => rfl
  | some t => simp
theorem restore_no {g : Rl} {bi bt : Int} (vot : List Int) (bd : ByteArray) (h : (restoreL g bi bt vot bd).1 = false) : (restoreL g bi bt vot bd).2 = ⟨bi, bt, vot, bd, []⟩ := by
  unfold restoreL at h ⊢
  simp only [decide_eq_false_iff_not] at h
  simp only [if_neg h]
theorem restore_yes {g : Rl} {bi bt : Int} (vot : List Int) (bd : ByteArray) (h : (restoreL g bi bt vot bd).1 = true) (hl : g.ents.length ≤ 1000) :
    sliceL (restoreL g bi bt vot bd).2 (bi + 1) 1000 = sliceL g (bi + 1) 1000 ∧ (restoreL g bi bt vot bd).2.last = bi + (sliceL g (bi + 1) 1000).length := by
  unfold restoreL at h ⊢
  simp only [decide_eq_true_eq] at h
  simp only [if_pos h]
  have h1 : g.bi ≤ bi := by
    rcases Int.lt_or_le bi g.bi with h1 | h1
    · rw [termL_none (.inl h1)] at h; cases h
    · exact h1
  have e : sliceL g (bi + 1) 1000 = g.ents.drop (bi - g.bi).toNat := by
    have := sliceL_from (g := g) (k := (bi - g.bi).toNat) (most := 1000) (by omega)
    rw [show g.bi + 1 + ((bi - g.bi).toNat : Int) = bi + 1 by omega] at this
    exact this
  rw [e]
  refine ⟨?_, rfl⟩
  exact sliceL_all (g := ⟨bi, bt, vot, bd, g.ents.drop (bi - g.bi).toNat⟩) (by show ((g.ents.drop _).length : Int) ≤ _; rw [List.length_drop]; omega)
/-! ### Newer -/
theorem newer_two (g h : Rl) : (newerL g h.last (lastT h) || newerL h g.last (lastT g)) = true ∧ (newerL g h.last (lastT h) && newerL h g.last (lastT g)) = (decide (lastT g = lastT h) && decide (g.last = h.last)) := by
  unfold newerL
  constructor
  · simp only [Bool.or_eq_true, Bool.and_eq_true, decide_eq_true_eq]
    omega
  · rw [Bool.eq_iff_iff]
    simp only [Bool.or_eq_true, Bool.and_eq_true, decide_eq_true_eq]
    omega
/-! ### Slices beside one another -/
theorem slice_next (g : Rl) (j k : Nat) : g.ents.take j ++ sliceL g (g.bi + 1 + j) k = g.ents.take (j + k) := by
  unfold sliceL
  rw [if_neg (by omega), show (g.bi + 1 + (j : Int) - g.bi - 1).toNat = j by omega, Int.toNat_natCast, List.take_add]
end Go.Proofs.Ytiffdhihhggkhaa

/-
  LAYER 8 (rlog), the laws' own helpers: pick, sameInts; parts as they come in; entry, base.
-/
namespace Go.Proofs.Ytiffdhihhggkhaa
open Go.ChangeShapes Go.WideShapes Go.ChangeAt Go.RowKit
open Go.WideMaps Go.WideElems Go.Deep Go.Joins
set_option linter.unusedVariables false
set_option maxRecDepth 100000

def pickZ (c n : Int) : Int := (if c < 0 then -(c + 1) else c) % n
theorem pickZ_range (c n : Int) (hn : 0 < n) : 0 ≤ pickZ c n ∧ pickZ c n < n := ⟨Int.emod_nonneg _ (by omega), Int.emod_lt_of_pos _ hn⟩
theorem pick_any (c n : Int) (w : World) (hn : 0 < n) (hn2 : n ≤ 1000000000) (h0 : -9223372036854775808 ≤ c) (h1 : c ≤ 9223372036854775807) :
    Calls Try.prog 12 #[.int .i64 c, .int .i64 n] w fun e w' => e = .returned (.int .i64 (pickZ c n)) ∧ w = w' := by
  unfold pickZ
  by_cases h : c < 0
  · rw [if_pos h]
    have hc : 0 ≤ -(c + 1) := by omega
    have hc2 : -(c + 1) ≤ 9223372036854775807 := by omega
    go_enter Try.func12, Try.ntmps12
    go_wp2
    go_ret
    refine ⟨?_, rfl⟩
    show Ending.returned (.int .i64 _) = _
    congr 2
    first | rfl | (rw [← Int.tmod_eq_emod_of_nonneg hc]; simp [Int.neg_tmod])
  · rw [if_neg h]
    have hc : 0 ≤ c := by omega
    go_enter Try.func12, Try.ntmps12
    go_wp2
    go_ret
    exact ⟨by first | rfl | (congr 2; exact Int.tmod_eq_emod_of_nonneg hc), rfl⟩
/-- A part: its voters are a slice (va, V.length, vc) that holds V. -/
structure Pa where
  term : Int
  kind : Int
  dt : ByteArray
  va : Option Addr
  vc : Nat
  V : List Int
def Pa.vv (p : Pa) : Value := .slice p.va p.V.length p.vc
def pTy : RowTy Pa := ⟨22, 63, 4, 56, fun x => [.int .i64 x.term, .int .i64 x.kind, .string x.dt, .slice x.va x.V.length x.vc], .agg #[.int .i64 0, .int .i64 0, .string ⟨#[]⟩, .slice none 0 0]⟩
theorem pTy_ok : pTy.Ok := ⟨fun _ => rfl, fun x u hu => by simp [pTy] at hu; rcases hu with rfl | rfl | rfl | rfl <;> rfl, by decide, Try.underlying22, by kernel_rfl, by kernel_rfl, rfl, by decide⟩
structure PaIn (W : World) (p : Pa) : Prop where
  term : I64' p.term
  kind : I64' p.kind
  dt : p.dt.size ≤ maxLen
  row : RAt numTy W p.vv p.V
  num : ∀ n ∈ p.V, I64' n
  len : p.V.length ≤ maxLen
theorem PaIn.below {w w' : World} {p : Pa} (h : PaIn w p) (hb : Below w.heap.size w w') : PaIn w' p := ⟨h.term, h.kind, h.dt, h.row.below hb, h.num, h.len⟩
theorem parts_arg {H : Type} {enc : TypeId × Value → H} {W : World} {base : Nat} {v : Value} {d : DataW H} {p : List MemPlace} (ho : Value.okWide Try.prog W .any base 22 v)
    (h : DataW.Trod enc Try.prog W 0 (fun _ => true) true 22 v d p) : ∃ l : List Pa, RAt pTy W v l ∧ (∀ a ∈ l, PaIn W a) ∧ l.length ≤ maxLen :=
  structs_arg pTy_ok ho h Try.underlying63 (by kernel_rfl) (by kernel_rfl) rfl (PaIn W) (fun c hc => by
    obtain ⟨_, _, t0⟩ := hc 0 _ rfl
    obtain ⟨_, _, t1⟩ := hc 1 _ rfl
    obtain ⟨_, _, t2⟩ := hc 2 _ rfl
    obtain ⟨_, _, t3⟩ := hc 3 _ rfl
    obtain ⟨k0, e0, b0⟩ := trodInt t0
    obtain ⟨k1, e1, b1⟩ := trodInt t1
    obtain ⟨k2, e2, b2⟩ := trodStr t2
    obtain ⟨G, g1, g2, g3⟩ := trodNums t3
    obtain ⟨ga, gc, e3, _⟩ := id g1
    refine ⟨⟨k0, k1, k2, ga, gc, G⟩, ⟨b0, b1, b2, by rw [e3] at g1; exact g1, g2, g3⟩, fun j u hj => ?_⟩
    match j, hj with
    | 0, hj => rw [e0]; simpa [pTy] using hj
    | 1, hj => rw [e1]; simpa [pTy] using hj
    | 2, hj => rw [e2]; simpa [pTy] using hj
    | 3, hj => rw [e3]; simpa [pTy] using hj)
/-- The k-th part's cells. -/
theorem pa_at {w : World} {v : Value} {l : List Pa} (h : RAt pTy w v l) : ∃ a cap, v = .slice a l.length cap ∧ ∀ (k : Nat) x, l[k]? = some x → ∃ sb so, a = some ⟨sb, so, none⟩ ∧ sb < w.heap.size ∧
    w.cell? ⟨sb, so + k * 4, none⟩ = some (.int .i64 x.term) ∧ w.cell? ⟨sb, so + k * 4 + 1, none⟩ = some (.int .i64 x.kind) ∧ w.cell? ⟨sb, so + k * 4 + 2, none⟩ = some (.string x.dt) ∧ w.cell? ⟨sb, so + k * 4 + 3, none⟩ = some (.slice x.va x.V.length x.vc) := by
  obtain ⟨a, cap, rfl, _, _, hc⟩ := h.at pTy_ok
  refine ⟨a, cap, rfl, fun k x hk => ?_⟩
  obtain ⟨sb, so, e, hlt, hcs⟩ := hc k x hk
  exact ⟨sb, so, e, hlt, hcs 0 _ rfl, hcs 1 _ rfl, hcs 2 _ rfl, hcs 3 _ rfl⟩
/-- A struct of four cells stored, cell by cell. -/
abbrev st4 (w : World) (b : Nat) (u0 u1 u2 u3 : Value) : World := (((w.setCell ⟨b, 0, none⟩ u0).setCell ⟨b, 1, none⟩ u1).setCell ⟨b, 2, none⟩ u2).setCell ⟨b, 3, none⟩ u3
theorem st4_own {w : World} {b : Nat} {T : TypeId} {a0 a1 a2 a3 : Value} (h : own w b #[a0, a1, a2, a3] T) (u0 u1 u2 u3 : Value) : own (st4 w b u0 u1 u2 u3) b #[u0, u1, u2, u3] T := by
  have h0 : own (w.setCell ⟨b, 0, none⟩ u0) b #[u0, a1, a2, a3] T := h.set 0 u0
  have h1 : own ((w.setCell ⟨b, 0, none⟩ u0).setCell ⟨b, 1, none⟩ u1) b #[u0, u1, a2, a3] T := h0.set 1 u1
  have h2 : own (((w.setCell ⟨b, 0, none⟩ u0).setCell ⟨b, 1, none⟩ u1).setCell ⟨b, 2, none⟩ u2) b #[u0, u1, u2, a3] T := h1.set 2 u2
  have h3 : own ((((w.setCell ⟨b, 0, none⟩ u0).setCell ⟨b, 1, none⟩ u1).setCell ⟨b, 2, none⟩ u2).setCell ⟨b, 3, none⟩ u3) b #[u0, u1, u2, u3] T := h2.set 3 u3
  exact h3
structure Box4 (w2 : World) (b : Nat) (a0 a1 a2 a3 u0 u1 u2 u3 : Value) : Prop where
  k0 : w2.cell? ⟨b, 0, none⟩ = some a0
  k1 : w2.cell? ⟨b, 1, none⟩ = some a1
  k2 : w2.cell? ⟨b, 2, none⟩ = some a2
  k3 : w2.cell? ⟨b, 3, none⟩ = some a3
  f0 : w2.frozen? ⟨b, 0, none⟩ = false
  f1 : w2.frozen? ⟨b, 1, none⟩ = false
  f2 : w2.frozen? ⟨b, 2, none⟩ = false
  f3 : w2.frozen? ⟨b, 3, none⟩ = false
  e0 : (st4 w2 b u0 u1 u2 u3).cell? ⟨b, 0, none⟩ = some u0
  e1 : (st4 w2 b u0 u1 u2 u3).cell? ⟨b, 1, none⟩ = some u1
  e2 : (st4 w2 b u0 u1 u2 u3).cell? ⟨b, 2, none⟩ = some u2
  e3 : (st4 w2 b u0 u1 u2 u3).cell? ⟨b, 3, none⟩ = some u3
theorem box4_of {w2 : World} {b : Nat} {T : TypeId} {a0 a1 a2 a3 : Value} (h : own w2 b #[a0, a1, a2, a3] T) (u0 u1 u2 u3 : Value) : Box4 w2 b a0 a1 a2 a3 u0 u1 u2 u3 :=
  ⟨(h.cell 0).trans rfl, (h.cell 1).trans rfl, (h.cell 2).trans rfl, (h.cell 3).trans rfl, h.frozen 0, h.frozen 1, h.frozen 2, h.frozen 3, ((st4_own h u0 u1 u2 u3).cell 0).trans rfl, ((st4_own h u0 u1 u2 u3).cell 1).trans rfl, ((st4_own h u0 u1 u2 u3).cell 2).trans rfl, ((st4_own h u0 u1 u2 u3).cell 3).trans rfl⟩
theorem st4_below {B : Nat} {w w2 : World} {b : Nat} (h : Below B w w2) (hb : B ≤ b) (u0 u1 u2 u3 : Value) : Below B w (st4 w2 b u0 u1 u2 u3) := (((h.setCell hb u0).setCell hb u1).setCell hb u2).setCell hb u3
/-- An entry of a part. -/
def entE (p : Pa) (i : Int) : Me := ⟨i, pickZ p.term 9, 1 + pickZ p.kind 3, if 0 < p.V.length then mk (eV p.V) else p.dt⟩
def entsE : List Pa → Int → List Me
  | [], _ => []
  | p :: r, i => entE p i :: entsE r (i + 1)
theorem entsE_len : ∀ (l : List Pa) (i : Int), (entsE l i).length = l.length
  | [], i => rfl
  | p :: r, i => by simp [entsE, entsE_len r]
theorem entsE_rises : ∀ (l : List Pa) (i : Int), Rises i (entsE l (i + 1))
  | [], i => Rises.nil i
  | p :: r, i => (entsE_rises r (i + 1)).cons rfl
theorem entsE_snoc : ∀ (l : List Pa) (p : Pa) (i : Int), entsE (l ++ [p]) i = entsE l i ++ [entE p (i + l.length)]
  | [], p, i => by simp [entsE]
  | q :: r, p, i => by
    show entE q i :: entsE (r ++ [p]) (i + 1) = entE q i :: (entsE r (i + 1) ++ [entE p (i + ((r.length + 1 : Nat) : Int))])
    rw [entsE_snoc r p (i + 1), show i + 1 + (r.length : Int) = i + ((r.length + 1 : Nat) : Int) by push_cast; omega]
theorem entsE_get : ∀ (l : List Pa) (i : Int) (k : Nat), (entsE l i)[k]? = (l[k]?).map fun p => entE p (i + k)
  | [], i, k => by simp [entsE]
  | p :: r, i, 0 => by simp [entsE]
  | p :: r, i, k + 1 => by
    unfold entsE
    rw [List.getElem?_cons_succ, List.getElem?_cons_succ, entsE_get r (i + 1) k, show i + 1 + (k : Int) = i + ((k + 1 : Nat) : Int) by push_cast; omega]
def entV (e : Me) : Value := .agg #[.int .i64 e.idx, .int .i64 e.term, .int .i64 e.kind, .string e.dt]
def EntPost (w : World) (x : Me) (e : Ending) (w' : World) : Prop := e = .returned (entV x) ∧ Below w.heap.size w w'
set_option maxHeartbeats 8000000 in
theorem entry_any (p : Pa) (i : Int) (w : World) (hp : PaIn w p) (hV : p.V.length ≤ 1000) :
    Calls Try.prog 32 #[.agg #[.int .i64 p.term, .int .i64 p.kind, .string p.dt, .slice p.va p.V.length p.vc], .int .i64 i] w (EntPost w (entE p i)) := by
  have HP1 := hid (fun wx => pick_any p.term 9 wx (by omega) (by omega) hp.term.1 hp.term.2)
  have HP2 := hid (fun wx => pick_any p.kind 3 wx (by omega) (by omega) hp.kind.1 hp.kind.2)
  have hr2 := pickZ_range p.kind 3 (by omega)
  obtain ⟨w0, hw0⟩ : ∃ w0, (w.alloc (.cells #[.int .i64 p.term, .int .i64 p.kind, .string p.dt, .slice p.va p.V.length p.vc] 63)).alloc (.cells #[.int .i64 0, .int .i64 0, .int .i64 0, .string ⟨#[]⟩] 49) = w0 := ⟨_, rfl⟩
  have z1 : (w.alloc (.cells #[.int .i64 p.term, .int .i64 p.kind, .string p.dt, .slice p.va p.V.length p.vc] 63)).heap.size = w.heap.size + 1 := by simp
  have z0 : w0.heap.size = w.heap.size + 2 := by rw [← hw0]; simp
  have ob : own w0 w.heap.size #[.int .i64 p.term, .int .i64 p.kind, .string p.dt, .slice p.va p.V.length p.vc] 63 := by
    rw [← hw0]; exact own.same (own.new w _ _) (Below.heap_alloc _ _ _ (by omega))
  have hb0 : Below w.heap.size w w0 := by rw [← hw0]; exact ((Below.refl _ w).alloc (Nat.le_refl _) _).alloc (by omega) _
  have HK : Hid (∀ wx, Below w0.heap.size w0 wx → wx.cell? ⟨w.heap.size, 0, none⟩ = some (.int .i64 p.term) ∧ wx.cell? ⟨w.heap.size, 1, none⟩ = some (.int .i64 p.kind) ∧ wx.cell? ⟨w.heap.size, 2, none⟩ = some (.string p.dt) ∧ wx.cell? ⟨w.heap.size, 3, none⟩ = some (.slice p.va p.V.length p.vc)) := hid (fun wx h => by
    have o := ob.same (h.block _ ob.lt)
    exact ⟨(o.cell 0).trans rfl, (o.cell 1).trans rfl, (o.cell 2).trans rfl, (o.cell 3).trans rfl⟩)
  have HW := hid hw0
  have HZ := hid z0
  have hbd : Below w0.heap.size w0 w0.drew := (Below.refl _ _).drew
  obtain ⟨q1, hq1⟩ : ∃ q, pickZ p.term 9 = q := ⟨_, rfl⟩
  obtain ⟨q2, hq2⟩ : ∃ q, pickZ p.kind 3 = q := ⟨_, rfl⟩
  rw [hq1] at HP1
  rw [hq2] at HP2 hr2
  have HQ1 := hid hq1
  have HQ2 := hid hq2
  have hbe : Below w0.heap.size w0 (w0.alloc (.cells #[.int .i64 i, .int .i64 q1, .int .i64 (1 + q2), .string p.dt] 49)).drew := ((Below.refl _ _).alloc (Nat.le_refl _) _).drew
  have hbz : Below w0.heap.size w0 (w0.alloc (.cells #[.int .i64 0, .int .i64 0, .int .i64 0, .string ⟨#[]⟩] 49)).drew := ((Below.refl _ _).alloc (Nat.le_refl _) _).drew
  obtain ⟨hr2a, hr2b⟩ := hr2
  have KD := hid (HK.out _ hbd)
  have KE := hid (HK.out _ hbe)
  have KZ := hid (HK.out _ hbz)
  have hwr : IntKind.i64.wrap (1 + q2) = 1 + q2 := by rw [IntKind.wrap_i64]; omega
  obtain ⟨wE, hwE⟩ : ∃ wE, (w0.alloc (.cells #[.int .i64 i, .int .i64 q1, .int .i64 (1 + q2), .string p.dt] 49)).drew = wE := ⟨_, rfl⟩
  have oE : own wE (w.heap.size + 1 + 1) #[.int .i64 i, .int .i64 q1, .int .i64 (1 + q2), .string p.dt] 49 := by rw [← hwE, show w.heap.size + 1 + 1 = w0.heap.size by omega]; exact own.new w0 _ _
  have oR0 : own w0 (w.heap.size + 1) #[.int .i64 0, .int .i64 0, .int .i64 0, .string ⟨#[]⟩] 49 := by rw [← hw0, ← z1]; exact own.new _ _ _
  have oR : own wE (w.heap.size + 1) #[.int .i64 0, .int .i64 0, .int .i64 0, .string ⟨#[]⟩] 49 := by rw [hwE] at hbe; exact oR0.same (hbe.block _ oR0.lt)
  have hbw : Below w.heap.size w wE := by rw [hwE] at hbe; exact hb0.trans (hbe.mono hb0.size)
  have hrow : RAt numTy wE (.slice p.va p.V.length p.vc) p.V := hp.row.below hbw
  have HV : Hid (Calls Try.prog 53 #[.slice p.va p.V.length p.vc] wE fun e w' => e = .returned (.string (mk (eV p.V))) ∧ Below wE.heap.size wE w') := hid (refVoters_any hrow (fun x hx => hp.num x hx) (by omega))
  have HAft : Hid (∀ s w5, Below wE.heap.size wE w5 → w5.cell? ⟨w.heap.size + 1 + 1, 3, none⟩ = some (.string p.dt) ∧ w5.frozen? ⟨w.heap.size + 1 + 1, 3, none⟩ = false ∧ (w5.setCell ⟨w.heap.size + 1 + 1, 3, none⟩ (.string s)).cell? ⟨w.heap.size + 1 + 1, 0, none⟩ = some (.int .i64 i) ∧ (w5.setCell ⟨w.heap.size + 1 + 1, 3, none⟩ (.string s)).cell? ⟨w.heap.size + 1 + 1, 1, none⟩ = some (.int .i64 q1) ∧ (w5.setCell ⟨w.heap.size + 1 + 1, 3, none⟩ (.string s)).cell? ⟨w.heap.size + 1 + 1, 2, none⟩ = some (.int .i64 (1 + q2)) ∧ (w5.setCell ⟨w.heap.size + 1 + 1, 3, none⟩ (.string s)).cell? ⟨w.heap.size + 1 + 1, 3, none⟩ = some (.string s) ∧
      Box4 (w5.setCell ⟨w.heap.size + 1 + 1, 3, none⟩ (.string s)) (w.heap.size + 1) (.int .i64 0) (.int .i64 0) (.int .i64 0) (.string ⟨#[]⟩) (.int .i64 i) (.int .i64 q1) (.int .i64 (1 + q2)) (.string s) ∧ Hid (Below w.heap.size w (st4 (w5.setCell ⟨w.heap.size + 1 + 1, 3, none⟩ (.string s)) (w.heap.size + 1) (.int .i64 i) (.int .i64 q1) (.int .i64 (1 + q2)) (.string s)))) := hid (fun s w5 h => by
    have o1 := oE.same (h.block _ oE.lt)
    have o2 : own (w5.setCell ⟨w.heap.size + 1 + 1, 3, none⟩ (.string s)) (w.heap.size + 1 + 1) #[.int .i64 i, .int .i64 q1, .int .i64 (1 + q2), .string s] 49 := o1.set 3 (.string s)
    have o3 := (oR.same (h.block _ oR.lt)).same (w' := w5.setCell ⟨w.heap.size + 1 + 1, 3, none⟩ (.string s)) (Below.heap_setCell _ _ _ _ (by show w.heap.size + 1 ≠ w.heap.size + 1 + 1; omega))
    have hb6 := hbw.trans (h.mono hbw.size)
    exact ⟨(o1.cell 3).trans rfl, o1.frozen 3, (o2.cell 0).trans rfl, (o2.cell 1).trans rfl, (o2.cell 2).trans rfl, (o2.cell 3).trans rfl, box4_of o3 _ _ _ _, hid (st4_below (hb6.setCell (by show w.heap.size ≤ w.heap.size + 1 + 1; omega) _) (by omega) _ _ _ _)⟩)
  have HNo : Hid (Box4 wE (w.heap.size + 1) (.int .i64 0) (.int .i64 0) (.int .i64 0) (.string ⟨#[]⟩) (.int .i64 i) (.int .i64 q1) (.int .i64 (1 + q2)) (.string p.dt) ∧ Hid (Below w.heap.size w (st4 wE (w.heap.size + 1) (.int .i64 i) (.int .i64 q1) (.int .i64 (1 + q2)) (.string p.dt)))) := hid ⟨box4_of oR _ _ _ _, hid (st4_below hbw (by omega) _ _ _ _)⟩
  have HNE : Hid ((wE.cell? ⟨w.heap.size + 1 + 1, 0, none⟩ = some (.int .i64 i) ∧ wE.cell? ⟨w.heap.size + 1 + 1, 1, none⟩ = some (.int .i64 q1)) ∧ wE.cell? ⟨w.heap.size + 1 + 1, 2, none⟩ = some (.int .i64 (1 + q2)) ∧ wE.cell? ⟨w.heap.size + 1 + 1, 3, none⟩ = some (.string p.dt)) := hid ⟨⟨(oE.cell 0).trans rfl, (oE.cell 1).trans rfl⟩, (oE.cell 2).trans rfl, (oE.cell 3).trans rfl⟩
  have KE2 : Hid (wE.cell? ⟨w.heap.size, 0, none⟩ = some (.int .i64 p.term) ∧ wE.cell? ⟨w.heap.size, 1, none⟩ = some (.int .i64 p.kind) ∧ wE.cell? ⟨w.heap.size, 2, none⟩ = some (.string p.dt) ∧ wE.cell? ⟨w.heap.size, 3, none⟩ = some (.slice p.va p.V.length p.vc)) := by rw [← hwE]; exact KE
  subst hw0
  clear hq1 hq2 ob hb0 z0 z1 oE oR0 oR hbw hrow hp hV
  by_cases hV0 : 0 < p.V.length
  · have hVI : (0 : Int) < (p.V.length : Int) := by omega
    go_enter Try.func32, Try.ntmps32
    go_upto_region 1 with (fail)
    go_cut [5] (fun u wx => u = .pointer (some ⟨w.heap.size + 1 + 1, 0, none⟩) ∧ wx = wE)
    case first =>
      subst hwE
      go_region_held3 (fun wx => (wx.cell? ⟨w.heap.size, 0, none⟩ = some (.int .i64 p.term) ∧ wx.cell? ⟨w.heap.size, 1, none⟩ = some (.int .i64 p.kind) ∧ wx.cell? ⟨w.heap.size, 2, none⟩ = some (.string p.dt) ∧ wx.cell? ⟨w.heap.size, 3, none⟩ = some (.slice p.va p.V.length p.vc)))
        (first | (with_reducible exact KD.out) | (with_reducible exact KE.out) | (with_reducible exact KZ.out))
        (first
          | (go_at_call 12; (with_reducible refine (HP1.out _).mono ?_); rintro e w5 ⟨rfl, rfl⟩)
          | (go_at_call 12; (with_reducible refine (HP2.out _).mono ?_); rintro e w5 ⟨rfl, rfl⟩))
      all_goals
        go_wp2
        go_meet
        exact ⟨rfl, rfl⟩
    case rest =>
    obtain ⟨rfl, rfl⟩ := hcut
    clear hwE KD KE KZ HK HP1 HP2 HNo
    obtain ⟨m0, m1, m2, m3⟩ := KE2.out
    go_wp2_with (go_at_call 53; (with_reducible refine HV.out.mono ?_); rintro e w5 ⟨rfl, hb5⟩; obtain ⟨c3, cf3, n0, n1, n2, n3, ⟨k0, k1, k2, k3, f0, f1, f2, f3, e0, e1, e2, e3⟩, HF⟩ := HAft.out (mk (eV p.V)) _ hb5; clear hb5)
    exact bodyPost_ret (v := .agg #[.int .i64 i, .int .i64 q1, .int .i64 (1 + q2), .string (mk (eV p.V))]) (by simp [results, Try.results32, go_sem, e0, e1, e2, e3]) rfl ⟨by unfold entE entV; rw [if_pos hV0, HQ1.out, HQ2.out], HF.out⟩
  · have hVI : ¬ (0 : Int) < (p.V.length : Int) := by omega
    have hVI2 : (p.V.length : Int) ≤ 0 := by omega
    go_enter Try.func32, Try.ntmps32
    go_upto_region 1 with (fail)
    go_cut [5] (fun u wx => u = .pointer (some ⟨w.heap.size + 1 + 1, 0, none⟩) ∧ wx = wE)
    case first =>
      subst hwE
      go_region_held3 (fun wx => (wx.cell? ⟨w.heap.size, 0, none⟩ = some (.int .i64 p.term) ∧ wx.cell? ⟨w.heap.size, 1, none⟩ = some (.int .i64 p.kind) ∧ wx.cell? ⟨w.heap.size, 2, none⟩ = some (.string p.dt) ∧ wx.cell? ⟨w.heap.size, 3, none⟩ = some (.slice p.va p.V.length p.vc)))
        (first | (with_reducible exact KD.out) | (with_reducible exact KE.out) | (with_reducible exact KZ.out))
        (first
          | (go_at_call 12; (with_reducible refine (HP1.out _).mono ?_); rintro e w5 ⟨rfl, rfl⟩)
          | (go_at_call 12; (with_reducible refine (HP2.out _).mono ?_); rintro e w5 ⟨rfl, rfl⟩))
      all_goals
        go_wp2
        go_meet
        exact ⟨rfl, rfl⟩
    case rest =>
    obtain ⟨rfl, rfl⟩ := hcut
    clear hwE KD KE KZ HK HP1 HP2
    obtain ⟨m0, m1, m2, m3⟩ := KE2.out
    obtain ⟨⟨n0, n1⟩, n2, n3⟩ := HNE.out
    obtain ⟨⟨k0, k1, k2, k3, f0, f1, f2, f3, e0, e1, e2, e3⟩, HF⟩ := HNo.out
    go_wp2
    exact bodyPost_ret (v := .agg #[.int .i64 i, .int .i64 q1, .int .i64 (1 + q2), .string p.dt]) (by simp [results, Try.results32, go_sem, e0, e1, e2, e3]) rfl ⟨by unfold entE entV; rw [if_neg hV0, HQ1.out, HQ2.out], HF.out⟩
end Go.Proofs.Ytiffdhihhggkhaa

/-
  LAYER 8 (rlog), the laws' own helpers: small, same, sameInts, entries, base. (Written by wip/tools/gen8_parts.py.)
-/
namespace Go.Proofs.Ytiffdhihhggkhaa
open Go.RowKit
set_option linter.unusedVariables false
set_option maxRecDepth 100000

def smOne (a : Pa) : Bool := decide (a.dt.size ≤ 300) && decide (a.V.length ≤ 30)
def smallP (l : List Pa) : Bool := decide (l.length ≤ 60) && l.all smOne
theorem small_any (w : World) (v : Value) (l : List Pa) (hv : RAt pTy w v l) (hl : l.length ≤ maxLen) :
    Calls Try.prog 10 #[v] w fun e w' => e = .returned (.bool (smallP l)) ∧ w = w' := by
  obtain ⟨a, cap, rfl, hat⟩ := pa_at hv
  have HA := hid hat
  clear hat hv
  by_cases hlen : l.length ≤ 60
  · have hlI : (l.length : Int) ≤ 60 := by omega
    obtain ⟨r, hr⟩ : ∃ r, smallP l = r := ⟨_, rfl⟩
    rw [hr]
    have HR := hid hr
    have HSm : Hid (smallP l = l.all smOne) := hid (by unfold smallP; rw [decide_eq_true hlen, Bool.true_and])
    clear hr
    go_enter Try.func10, Try.ntmps10
    go_wp2
    go_loop [3] (fun i => ∃ k : Nat, k ≤ l.length ∧ i = .int .i64 k ∧ Hid ((l.take k).all smOne = true)) (fun i => l.length - (intOf i).toNat)
    case atStart => exact ⟨0, Nat.zero_le _, rfl, hid (by simp)⟩
    case round =>
      obtain ⟨k, hk, rfl, hT⟩ := hrel
      by_cases hkl : k < l.length
      · obtain ⟨x, hx⟩ : ∃ x, l[k] = x := ⟨_, rfl⟩
        obtain ⟨sb, so, rfl, _, _, _, c4, c5⟩ := HA.out k x (by rw [List.getElem?_eq_getElem hkl, hx])
        have hkI : (k : Int) < (l.length : Int) := by omega
        have HS : Hid (smOne x = true → (l.take (k + 1)).all smOne = true) := hid (fun h => by
          rw [List.take_add_one, List.getElem?_eq_getElem hkl, hx]
          simp only [Option.toList, List.all_append, hT.out, List.all_cons, h, List.all_nil, Bool.and_true])
        have HN : Hid (smOne x = false → l.all smOne = false) := hid (fun h => by
          rw [List.all_eq_false]
          exact ⟨x, by rw [← hx]; exact List.getElem_mem hkl, by rw [h]; simp⟩)
        clear hx
        by_cases h1 : x.dt.size ≤ 300
        · have h1I : (x.dt.size : Int) ≤ 300 := by omega
          by_cases h2 : x.V.length ≤ 30
          · have h2I : (x.V.length : Int) ≤ 30 := by omega
            have HO := hid (HS.out (by unfold smOne; rw [decide_eq_true h1, decide_eq_true h2]; rfl))
            go_wp2
            go_round
            case rel => exact ⟨k + 1, by omega, by go_num, HO⟩
            case measure => simp [intOf]; omega
          · have h2I : (30 : Int) < (x.V.length : Int) := by omega
            obtain rfl : r = false := HR.out.symm.trans (HSm.out.trans (HN.out (by unfold smOne; rw [decide_eq_false h2, Bool.and_false])))
            go_wp2
            go_ret
            exact ⟨rfl, rfl⟩
        · have h1I : (300 : Int) < (x.dt.size : Int) := by omega
          obtain rfl : r = false := HR.out.symm.trans (HSm.out.trans (HN.out (by unfold smOne; rw [decide_eq_false h1, Bool.false_and])))
          go_wp2
          go_ret
          exact ⟨rfl, rfl⟩
      · obtain rfl : k = l.length := by omega
        obtain rfl : r = true := HR.out.symm.trans (HSm.out.trans (by have := hT.out; rwa [List.take_length] at this))
        go_wp2
        go_ret
        exact ⟨rfl, rfl⟩
  · have hlI : (60 : Int) < (l.length : Int) := by omega
    have hs : smallP l = false := by unfold smallP; rw [decide_eq_false hlen, Bool.false_and]
    rw [hs]
    clear hs
    go_enter Try.func10, Try.ntmps10
    go_wp2
    go_ret
    exact ⟨rfl, rfl⟩
def SiRel (w : World) (n : Nat) (u : Value) (wr : World) : Prop := ∃ k : Nat, k ≤ n ∧ u = .int .i64 (k : Int) ∧ Below w.heap.size w wr
set_option maxHeartbeats 2000000 in
theorem sameInts_same {w : World} {v1 v2 : Value} {xs : List Int} (h1 : RAt numTy w v1 xs) (h2 : RAt numTy w v2 xs) (hl : xs.length ≤ maxLen) :
    Calls Try.prog 29 #[v1, v2] w fun e w' => e = .returned (.bool true) ∧ Below w.heap.size w w' := by
  obtain ⟨a1, c1, rfl, hat1⟩ := nums_at h1
  obtain ⟨a2, c2, rfl, hat2⟩ := nums_at h2
  have HAt : Hid (∀ wx, Below w.heap.size w wx → ∀ k, k < xs.length → ∃ sb so sc sd, a1 = some ⟨sb, so, none⟩ ∧ a2 = some ⟨sc, sd, none⟩ ∧ wx.cell? ⟨sb, so + k, none⟩ = some (.int .i64 (xs.getD k 0)) ∧ wx.cell? ⟨sc, sd + k, none⟩ = some (.int .i64 (xs.getD k 0))) := hid (fun wx hb k hk => by
    obtain ⟨sb, so, e, hlt, hc⟩ := hat1 k hk
    obtain ⟨sc, sd, e', hlt', hc'⟩ := hat2 k hk
    exact ⟨sb, so, sc, sd, e, e', (hb.cell (p := ⟨sb, so + k, none⟩) hlt).trans hc, (hb.cell (p := ⟨sc, sd + k, none⟩) hlt').trans hc'⟩)
  unfold maxLen at hl
  clear hat1 hat2 h1 h2
  generalize xs.length = n at *
  go_enter Try.func29, Try.ntmps29
  go_wp2
  go_loopw [5] (SiRel w n) (fun i _ => n - (intOf i).toNat)
  case atStart => exact ⟨0, Nat.zero_le _, rfl, Below.refl _ _⟩
  case round =>
    obtain ⟨k, hk, rfl, hbw⟩ := hrel
    by_cases hkn : k < n
    · have hkI : (k : Int) < (n : Int) := by omega
      obtain ⟨sb, so, sc, sd, rfl, rfl, d1, d2⟩ := HAt.out _ hbw k hkn
      have HBw := hid (fun nq => below_drew hbw nq)
      clear hbw
      generalize xs.getD k 0 = x at *
      have q : (x != x) = false := bne_self_eq_false _
      go_wp2
      go_quiet (fail)
      all_goals
        go_wp2
        go_roundw
        case rel => exact ⟨k + 1, by omega, by go_num, HBw.out _⟩
        case measure => simp [intOf]; omega
    · obtain rfl : k = n := by omega
      have HBw := hid hbw
      clear hbw
      go_wp2
      go_ret
      exact ⟨rfl, HBw.out⟩
/-- The k-th entry's cells. -/
theorem en_at {w : World} {v : Value} {l : List Me} (h : RAt enTy w v l) : ∃ a cap, v = .slice a l.length cap ∧ ∀ (k : Nat) x, l[k]? = some x → ∃ sb so, a = some ⟨sb, so, none⟩ ∧ ∀ wx, Below w.heap.size w wx → wx.cell? ⟨sb, so + k * 4, none⟩ = some (.int .i64 x.idx) ∧ wx.cell? ⟨sb, so + k * 4 + 1, none⟩ = some (.int .i64 x.term) ∧ wx.cell? ⟨sb, so + k * 4 + 2, none⟩ = some (.int .i64 x.kind) ∧ wx.cell? ⟨sb, so + k * 4 + 3, none⟩ = some (.string x.dt) := by
  obtain ⟨a, cap, rfl, _, _, hc⟩ := h.at enTy_ok
  refine ⟨a, cap, rfl, fun k x hk => ?_⟩
  obtain ⟨sb, so, e, hlt, hcs⟩ := hc k x hk
  exact ⟨sb, so, e, fun wx hb => ⟨(hb.cell (p := ⟨sb, so + k * 4, none⟩) hlt).trans (hcs 0 _ rfl), (hb.cell (p := ⟨sb, so + k * 4 + 1, none⟩) hlt).trans (hcs 1 _ rfl), (hb.cell (p := ⟨sb, so + k * 4 + 2, none⟩) hlt).trans (hcs 2 _ rfl), (hb.cell (p := ⟨sb, so + k * 4 + 3, none⟩) hlt).trans (hcs 3 _ rfl)⟩⟩
set_option maxHeartbeats 8000000 in
theorem same_same {w : World} {v1 v2 : Value} {L : List Me} (h1 : RAt enTy w v1 L) (h2 : RAt enTy w v2 L) (hl : L.length ≤ maxLen) :
    Calls Try.prog 18 #[v1, v2] w fun e w' => e = .returned (.bool true) ∧ Below w.heap.size w w' := by
  obtain ⟨a1, c1, rfl, hat1⟩ := en_at h1
  obtain ⟨a2, c2, rfl, hat2⟩ := en_at h2
  have HE1 := hid hat1
  have HE2 := hid hat2
  unfold maxLen at hl
  clear hat1 hat2 h1 h2
  go_enter Try.func18, Try.ntmps18
  go_wp2
  go_loopw [5] (SiRel w L.length) (fun i _ => L.length - (intOf i).toNat)
  case atStart => exact ⟨0, Nat.zero_le _, rfl, Below.refl _ _⟩
  case round =>
    obtain ⟨k, hk, rfl, hbw⟩ := hrel
    by_cases hkn : k < L.length
    · have hkI : (k : Int) < (L.length : Int) := by omega
      obtain ⟨x, hx⟩ : ∃ x, L[k] = x := ⟨_, rfl⟩
      have hxk : L[k]? = some x := by rw [List.getElem?_eq_getElem hkn, hx]
      obtain ⟨sb, so, rfl, hcs⟩ := HE1.out k x hxk
      obtain ⟨sc, sd, rfl, hds⟩ := HE2.out k x hxk
      obtain ⟨c0, c1, c2, c3⟩ := hcs _ hbw
      obtain ⟨d0, d1, d2, d3⟩ := hds _ hbw
      have HBw := hid (fun nq => below_drew hbw nq)
      have q0 : (x.idx == x.idx) = true := beq_self_eq_true _
      have q1 : (x.term == x.term) = true := beq_self_eq_true _
      have q2 : (x.kind == x.kind) = true := beq_self_eq_true _
      have q3 : (x.dt.toList == x.dt.toList) = true := beq_self_eq_true _
      clear hx hxk hcs hds hbw
      go_wp2
      go_quiet (fail)
      all_goals
        go_wp2
        go_roundw
        case rel => exact ⟨k + 1, by omega, by go_num, HBw.out _⟩
        case measure => simp [intOf]; omega
    · obtain rfl : k = L.length := by omega
      have HBw := hid hbw
      clear hbw
      go_wp2
      go_ret
      exact ⟨rfl, HBw.out⟩
/-- Where entries has come to. -/
def EsRel (w : World) (l : List Pa) (fr : Int) (u v : Value) (wr : World) : Prop := ∃ (k : Nat) (a : Option Addr) (cap : Nat), k ≤ l.length ∧ u = .slice a k cap ∧ v = .int .i64 (k : Int) ∧ Hid (RMid enTy w wr (.slice a k cap) (entsE (l.take k) fr))
def EsPost (w : World) (L : List Me) (e : Ending) (w' : World) : Prop := ∃ a cap, e = .returned (.slice a L.length cap) ∧ RMid enTy w w' (.slice a L.length cap) L
set_option maxHeartbeats 8000000 in
theorem entries_any {w : World} {v : Value} {l : List Pa} (fr : Int) (hv : RAt pTy w v l) (hin : ∀ p ∈ l, PaIn w p) (hV : ∀ p ∈ l, p.V.length ≤ 1000) (hl : l.length ≤ 1000) (hf : -1000000 ≤ fr ∧ fr ≤ 1000000) :
    Calls Try.prog 11 #[v, .int .i64 fr] w (EsPost w (entsE l fr)) := by
  obtain ⟨a, cap, rfl, hat⟩ := pa_at hv
  have HA : Hid (∀ wx, Below w.heap.size w wx → ∀ (k : Nat) x, l[k]? = some x → ∃ sb so, a = some ⟨sb, so, none⟩ ∧ wx.cell? ⟨sb, so + k * 4, none⟩ = some (.int .i64 x.term) ∧ wx.cell? ⟨sb, so + k * 4 + 1, none⟩ = some (.int .i64 x.kind) ∧ wx.cell? ⟨sb, so + k * 4 + 2, none⟩ = some (.string x.dt) ∧ wx.cell? ⟨sb, so + k * 4 + 3, none⟩ = some (.slice x.va x.V.length x.vc)) := hid (fun wx hb k x hk => by
    obtain ⟨sb, so, e, hlt, d0, d1, d2, d3⟩ := hat k x hk
    exact ⟨sb, so, e, (hb.cell (p := ⟨sb, so + k * 4, none⟩) hlt).trans d0, (hb.cell (p := ⟨sb, so + k * 4 + 1, none⟩) hlt).trans d1, (hb.cell (p := ⟨sb, so + k * 4 + 2, none⟩) hlt).trans d2, (hb.cell (p := ⟨sb, so + k * 4 + 3, none⟩) hlt).trans d3⟩)
  have HI : Hid (∀ wx, Below w.heap.size w wx → ∀ (k : Nat) x (i : Int), l[k]? = some x → Calls Try.prog 32 #[.agg #[.int .i64 x.term, .int .i64 x.kind, .string x.dt, .slice x.va x.V.length x.vc], .int .i64 i] wx (EntPost wx (entE x i))) := hid (fun wx hb k x i hk => entry_any x i wx ((hin x (List.mem_of_getElem? hk)).below hb) (hV x (List.mem_of_getElem? hk)))
  have HPost : Hid (∀ wx (a' : Option Addr) cap', RMid enTy w wx (.slice a' l.length cap') (entsE (l.take l.length) fr) → EsPost w (entsE l fr) (.returned (.slice a' l.length cap')) wx) := hid (fun wx a' cap' h => by
    rw [List.take_length] at h
    exact ⟨a', cap', by rw [entsE_len], by rw [entsE_len]; exact h⟩)
  obtain ⟨hf1, hf2⟩ := hf
  have HS : Hid (∀ wr (k : Nat) x (a' : Option Addr) cap', l[k]? = some x → RMid enTy w wr (.slice a' k cap') (entsE (l.take k) fr) → ∀ w2, Below wr.heap.size wr w2 → ∃ a5 c5 w5, (Builtin.append_ #[26, 26] 26 #[.slice a' k cap', .slice (some ⟨w2.heap.size, 0, none⟩) 1 1]).run Try.prog (w2.alloc (.cells #[.int .i64 (entE x (fr + k)).idx, .int .i64 (entE x (fr + k)).term, .int .i64 (entE x (fr + k)).kind, .string (entE x (fr + k)).dt] 49)) = .ok (.slice a5 (k + 1) c5) w5 ∧ Hid (RMid enTy w w5 (.slice a5 (k + 1) c5) (entsE (l.take (k + 1)) fr))) := hid (fun wr k x a' cap' hk hm w2 hb => by
    have hkl : k < l.length := (List.getElem?_eq_some_iff.1 hk).1
    have hlen : (entsE (l.take k) fr).length = k := by rw [entsE_len, List.length_take]; omega
    obtain ⟨a5, c5, w5, hr, h5⟩ := (hm.later hb).push enTy_ok 26 49 (entE x (fr + k)) #[.int .i64 (entE x (fr + k)).idx, .int .i64 (entE x (fr + k)).term, .int .i64 (entE x (fr + k)).kind, .string (entE x (fr + k)).dt] rfl (by rw [hlen]; omega)
    rw [hlen] at hr h5
    refine ⟨a5, c5, w5, hr, hid ?_⟩
    rw [List.take_add_one, hk, Option.toList, entsE_snoc, List.length_take, Nat.min_eq_left (by omega)]
    exact h5)
  clear hv hat hin hV
  go_enter Try.func11, Try.ntmps11
  go_wp2
  go_loopw [5, 6] (EsRel w l fr) (fun _ i _ => l.length - (intOf i).toNat)
  case atStart => exact ⟨0, none, 0, Nat.zero_le _, rfl, rfl, hid (rMid_nil w)⟩
  case round =>
    obtain ⟨k, a', cap', hk, rfl, rfl, hm⟩ := hrel
    by_cases hkn : k < l.length
    · have hkI : (k : Int) < (l.length : Int) := by omega
      have hwr : IntKind.i64.wrap (fr + (k : Int)) = fr + k := by rw [IntKind.wrap_i64]; omega
      obtain ⟨x, hx⟩ : ∃ x, l[k]? = some x := ⟨_, List.getElem?_eq_getElem hkn⟩
      obtain ⟨sb, so, rfl, c0, c1, c2, c3⟩ := HA.out _ hm.out.below k x hx
      have HC := hid (HI.out _ hm.out.below k x (fr + k) hx)
      have HP := hid (HS.out _ k x a' cap' hx hm.out)
      clear hx
      go_wp2_with (first
        | (go_at_call 32; (with_reducible refine HC.out.mono ?_); rintro e w2 ⟨rfl, hb2⟩; obtain ⟨a5, c5, w5, hrun, h5⟩ := HP.out _ hb2; have HRun := hid hrun; clear hrun hb2; unfold entV)
        | (at_builtin; refine wpList_append_at HRun.out (by with_reducible rfl) rfl _ _ rfl rfl rfl rfl ?_))
      go_roundw
      case rel => exact ⟨k + 1, a5, c5, by omega, rfl, by go_num, h5⟩
      case measure => simp [intOf]; omega
    · obtain rfl : k = l.length := by omega
      go_wp2
      go_ret
      exact HPost.out _ _ _ hm.out
def bB : ByteArray := ⟨#[98]⟩
/-- What base leaves. -/
def BsPost (w : World) (bi bt : Int) (e : Ending) (w' : World) : Prop := ∃ g, e = .returned (.agg #[.int .i64 bi, .int .i64 bt, .slice (some ⟨g, 0, none⟩) 3 3, .string bB]) ∧ RMid numTy w w' (.slice (some ⟨g, 0, none⟩) 3 3) [1, 2, 3]
set_option maxHeartbeats 4000000 in
theorem base_any (i t : Int) (w : World) (hi : I64' i) (ht : I64' t) :
    Calls Try.prog 14 #[.int .i64 i, .int .i64 t] w (BsPost w (pickZ i 30) (pickZ t 9)) := by
  have HP1 := hid (fun wx => pick_any i 30 wx (by omega) (by omega) hi.1 hi.2)
  have HP2 := hid (fun wx => pick_any t 9 wx (by omega) (by omega) ht.1 ht.2)
  have HF : Hid (∀ wx q1 q2 v g, wx = w.alloc (.cells #[.int .i64 q1, .int .i64 q2, v, .string bB] 33) → wx.heap.size = g → RMid numTy w (wx.alloc (.cells #[.int .i64 1, .int .i64 2, .int .i64 3] 3)) (.slice (some ⟨g, 0, none⟩) 3 3) [1, 2, 3]) := hid (fun wx q1 q2 v g h hg => by
    subst hg
    have hb : Below w.heap.size w wx := by rw [h]; exact (Below.refl _ w).alloc (Nat.le_refl _) _
    exact ⟨rOwn_made numTy_ok (own.new wx _ _) rfl 3 rfl (by decide), fun b e => by cases e; exact hb.size, hb.alloc hb.size _⟩)
  clear hi ht
  go_enter Try.func14, Try.ntmps14
  go_wp2_with (first
    | (go_at_call 12; (with_reducible refine (HP1.out _).mono ?_); rintro e w1 ⟨rfl, rfl⟩)
    | (go_at_call 12; (with_reducible refine (HP2.out _).mono ?_); rintro e w2 ⟨rfl, rfl⟩))
  exact bodyPost_ret (v := .agg #[.int .i64 (pickZ i 30), .int .i64 (pickZ t 9), .slice (some ⟨w.heap.size + 1, 0, none⟩) 3 3, .string bB]) (by simp [results, Try.results14, go_sem, bB]) rfl ⟨_, rfl, HF.out _ (pickZ i 30) (pickZ t 9) (.slice (some ⟨w.heap.size + 1, 0, none⟩) 3 3) _ rfl (by simp)⟩
end Go.Proofs.Ytiffdhihhggkhaa

/-
  LAYER 8 (rlog): WHAT THE LAWS ASK OF THE PROGRAM: how a log may lie in memory (any way that keeps to blocks of its own), and its calls' contracts in the words of the lists.
-/
namespace Go.Proofs.Ytiffdhihhggkhaa
open Go.RowKit
set_option linter.unusedVariables false
set_option maxRecDepth 100000

/-- How a log may lie in memory: in the blocks F; its pointer names the block r. -/
structure RlRep where
  Is : World → (Nat → Prop) → Nat → Rl → Prop
  same : ∀ {w w' : World} {F : Nat → Prop} {r : Nat} {s : Rl}, Is w F r s → w.heap.size ≤ w'.heap.size → (∀ b, F b → w'.heap[b]? = w.heap[b]?) → Is w' F r s
  lt : ∀ {w : World} {F : Nat → Prop} {r : Nat} {s : Rl}, Is w F r s → ∀ b, F b → b < w.heap.size
structure MeB (e : Me) : Prop where
  term : I64' e.term
  kind : I64' e.kind
  dt : e.dt.size ≤ 100000
/-- A log of a size that the laws come to. -/
structure RlB (s : Rl) : Prop where
  ok : s.Ok
  bi : s.bi ≤ 100000
  len : s.ents.length ≤ 5000
  bt : I64' s.bt
  vot : ∀ x ∈ s.vot, I64' x
  vl : s.vot.length ≤ 1000
  bd : s.bd.size ≤ 100000
  ents : ∀ e ∈ s.ents, MeB e
theorem RlB.last {s : Rl} (h : RlB s) : 0 ≤ s.last ∧ s.last ≤ 105000 := by
  have := h.ok.pos
  have := h.bi
  have := h.len
  unfold Rl.last
  omega
def MeIs (e : Me) : Prop := MeB e ∧ -1000000 ≤ e.idx ∧ e.idx ≤ 1000000
def baseV (bi bt : Int) (vv : Value) (bd : ByteArray) : Value := .agg #[.int .i64 bi, .int .i64 bt, vv, .string bd]
def NewPost (R : RlRep) (w : World) (s : Rl) (e : Ending) (w' : World) : Prop := ∃ r F, e = .returned (.pointer (some ⟨r, 0, none⟩)) ∧ R.Is w' F r s ∧ (∀ b, F b → w.heap.size ≤ b) ∧ Below w.heap.size w w'
/-- A call has turned it: only its own blocks, and new ones. -/
def Turn (R : RlRep) (F : Nat → Prop) (w w' : World) (r : Nat) (s : Rl) : Prop := ∃ F', R.Is w' F' r s ∧ Chg F w w' ∧ ∀ b, F' b → F b ∨ w.heap.size ≤ b
/-- A row that lies apart from a log's blocks. -/
structure Apart {α : Type} (T : RowTy α) (w : World) (F : Nat → Prop) (v : Value) (L : List α) : Prop where
  row : RAt T w v L
  out : ∀ b, v.ownBlock = some b → ¬ F b ∧ b < w.heap.size
/-- A row that lies somewhere. -/
structure RLies {α : Type} (T : RowTy α) (w : World) (v : Value) (L : List α) : Prop where
  rAt : RAt T w v L
theorem RLies.slice {α : Type} {T : RowTy α} {w : World} {v : Value} {L : List α} (h : RLies T w v L) : ∃ ao cap, v = .slice ao L.length cap ∧ L.length ≤ cap ∧ (ao = none → cap = 0) ∧ cap ≤ maxLen := by
  obtain ⟨a, cap, e, h1, h2, h3, _⟩ := h.rAt
  exact ⟨a, cap, e, h1, h2, h3⟩
/-- A row that a call has answered: a new one, if anything is in it (slices.Clone answers an empty row's own place). -/
structure RTold {α : Type} (T : RowTy α) (w w' : World) (v : Value) (L : List α) : Prop where
  row : RLies T w' v L
  below : Below w.heap.size w w'
  new : L ≠ [] → ∀ b, v.ownBlock = some b → w.heap.size ≤ b
theorem RMid.told {α : Type} {T : RowTy α} {w w' : World} {v : Value} {L : List α} (h : RMid T w w' v L) : RTold T w w' v L := ⟨⟨h.row.rAt⟩, h.below, fun _ => h.new⟩
structure RlProg (R : RlRep) : Prop where
  new : ∀ {w : World} (bi bt : Int) (vv : Value) (vot : List Int) (bd : ByteArray) (ev : Value) (l : List Me), RAt numTy w vv vot → RAt enTy w ev l → RlB (newL bi bt vot bd l) → l.length ≤ 1000 → (∀ e ∈ l, MeIs e) →
    Calls Try.prog 13 #[baseV bi bt vv bd, ev] w (NewPost R w (newL bi bt vot bd l))
  base : ∀ {w : World} {F : Nat → Prop} {r : Nat} {s : Rl}, R.Is w F r s → RlB s → Calls Try.prog 27 #[.pointer (some ⟨r, 0, none⟩)] w fun e w' => ∃ vv, e = .returned (baseV s.bi s.bt vv s.bd) ∧ RTold numTy w w' vv s.vot
  last : ∀ {w : World} {F : Nat → Prop} {r : Nat} {s : Rl}, R.Is w F r s → RlB s → Calls Try.prog 24 #[.pointer (some ⟨r, 0, none⟩)] w fun e w' => e = .returned (.int .i64 s.last) ∧ Below w.heap.size w w'
  term : ∀ {w : World} {F : Nat → Prop} {r : Nat} {s : Rl} (i : Int), R.Is w F r s → RlB s → I64' i → Calls Try.prog 28 #[.pointer (some ⟨r, 0, none⟩), .int .i64 i] w fun e w' => e = .returned (.tuple #[.int .i64 ((termL s i).getD 0), .bool (termL s i).isSome]) ∧ Below w.heap.size w w'
  slice : ∀ {w : World} {F : Nat → Prop} {r : Nat} {s : Rl} (fr most : Int), R.Is w F r s → RlB s → I64' fr → I64' most → Calls Try.prog 19 #[.pointer (some ⟨r, 0, none⟩), .int .i64 fr, .int .i64 most] w fun e w' => ∃ vv, e = .returned vv ∧ RMid enTy w w' vv (sliceL s fr most)
  newer : ∀ {w : World} {F : Nat → Prop} {r : Nat} {s : Rl} (i t : Int), R.Is w F r s → RlB s → I64' i → I64' t → Calls Try.prog 21 #[.pointer (some ⟨r, 0, none⟩), .int .i64 i, .int .i64 t] w fun e w' => e = .returned (.bool (newerL s i t)) ∧ Below w.heap.size w w'
  voters : ∀ {w : World} {F : Nat → Prop} {r : Nat} {s : Rl} (i : Int), R.Is w F r s → RlB s → I64' i → Calls Try.prog 30 #[.pointer (some ⟨r, 0, none⟩), .int .i64 i] w fun e w' => ∃ vv, e = .returned vv ∧ RTold numTy w w' vv (votersL s i)
  add : ∀ {w : World} {F : Nat → Prop} {r : Nat} {s : Rl} (t k : Int) (d : ByteArray), R.Is w F r s → RlB s → I64' t → I64' k → d.size ≤ 100000 → s.ents.length < 5000 → Calls Try.prog 33 #[.pointer (some ⟨r, 0, none⟩), .int .i64 t, .int .i64 k, .string d] w fun e w' => e = .returned (entV (addE s t k d)) ∧ Turn R F w w' r (addL s t k d)
  match_ : ∀ {w : World} {F : Nat → Prop} {r : Nat} {s : Rl} (index term fixed : Int) (ev : Value) (l : List Me), R.Is w F r s → RlB s → Apart enTy w F ev l → l.length ≤ 1000 → (∀ e ∈ l, MeIs e) → I64' index → I64' term → s.bi ≤ fixed → fixed ≤ s.last →
    Calls Try.prog 25 #[.pointer (some ⟨r, 0, none⟩), .int .i64 index, .int .i64 term, .int .i64 fixed, ev] w fun e w' => e = .returned (.tuple #[.int .i64 (matchL s index term fixed l).1.1, .int .i64 (matchL s index term fixed l).1.2.1, .bool (matchL s index term fixed l).1.2.2]) ∧ Turn R F w w' r (matchL s index term fixed l).2
  compact : ∀ {w : World} {F : Nat → Prop} {r : Nat} {s : Rl} (i : Int) (d : ByteArray), R.Is w F r s → RlB s → I64' i → d.size ≤ 100000 → Calls Try.prog 26 #[.pointer (some ⟨r, 0, none⟩), .int .i64 i, .string d] w fun e w' => e = .returned (.int .i64 (compactL s i d).1) ∧ Turn R F w w' r (compactL s i d).2
  restore : ∀ {w : World} {F : Nat → Prop} {r : Nat} {s : Rl} (bi bt : Int) (vv : Value) (vot : List Int) (bd : ByteArray), R.Is w F r s → RlB s → Apart numTy w F vv vot → 0 ≤ bi → bi ≤ 100000 → I64' bt → (∀ x ∈ vot, I64' x) → vot.length ≤ 1000 → bd.size ≤ 100000 → Calls Try.prog 31 #[.pointer (some ⟨r, 0, none⟩), baseV bi bt vv bd] w fun e w' => e = .returned (.bool (restoreL s bi bt vot bd).1) ∧ Turn R F w w' r (restoreL s bi bt vot bd).2
/-- A log at hand: made since w0. -/
structure Lg (R : RlRep) (w0 w : World) (F : Nat → Prop) (r : Nat) (s : Rl) : Prop where
  is : R.Is w F r s
  new : ∀ b, F b → w0.heap.size ≤ b
  below : Below w0.heap.size w0 w
  b : RlB s
section
variable {R : RlRep} {w0 w w' : World} {F F' : Nat → Prop} {r : Nat} {s s' : Rl}
theorem Lg.later (h : Lg R w0 w F r s) (hb : Below w.heap.size w w') : Lg R w0 w' F r s := ⟨R.same h.is hb.size (fun b e => hb.block b (R.lt h.is b e)), h.new, h.below.trans (hb.mono h.below.size), h.b⟩
theorem Lg.turn (h : Lg R w0 w F r s) (hi : R.Is w' F' r s') (hc : Chg F w w') (hF : ∀ b, F' b → F b ∨ w.heap.size ≤ b) (hb : RlB s') : Lg R w0 w' F' r s' :=
  ⟨hi, fun b e => by
    rcases hF b e with k | k
    · exact h.new b k
    · have := h.below.size; omega, h.below.trans (hc.below h.below.size (fun b e => h.new b e)), hb⟩
theorem Lg.beside (h : Lg R w0 w F r s) {G : Nat → Prop} (hc : Chg G w w') (hG : ∀ b, G b → w0.heap.size ≤ b) (hd : ∀ b, F b → ¬ G b) : Lg R w0 w' F r s :=
  ⟨R.same h.is hc.size (fun b e => hc.block b (R.lt h.is b e) (hd b e)), h.new, h.below.trans (hc.below h.below.size hG), h.b⟩
theorem lg_new {w : World} (hp : NewPost R w s (.returned (.pointer (some ⟨r, 0, none⟩))) w') (h0 : Below w0.heap.size w0 w) (hb : RlB s) : ∃ F, Lg R w0 w' F r s ∧ Below w.heap.size w w' ∧ ∀ b, F b → w.heap.size ≤ b := by
  obtain ⟨r', F, e, hi, hn, hbb⟩ := hp
  cases e
  exact ⟨F, ⟨hi, fun b e => by have := hn b e; have := h0.size; omega, h0.trans (hbb.mono h0.size), hb⟩, hbb, hn⟩
end
section
variable {α : Type} {T : RowTy α} {w w' : World} {F F' : Nat → Prop} {v : Value} {L : List α}
theorem Apart.below (h : Apart T w F v L) (hb : Below w.heap.size w w') : Apart T w' F v L := ⟨h.row.below hb, fun b e => ⟨(h.out b e).1, Nat.lt_of_lt_of_le (h.out b e).2 hb.size⟩⟩
theorem Apart.turn (h : Apart T w F v L) (hc : Chg F w w') (hF : ∀ b, F' b → F b ∨ w.heap.size ≤ b) : Apart T w' F' v L :=
  ⟨h.row.same (fun b e _ => hc.block b (h.out b e).2 (h.out b e).1) hc.size, fun b e => ⟨fun k => by
    rcases hF b k with k | k
    · exact (h.out b e).1 k
    · have := (h.out b e).2; omega, Nat.lt_of_lt_of_le (h.out b e).2 hc.size⟩⟩
theorem apart_new (h : RMid T w w' v L) (hF : ∀ b, F b → b < w.heap.size) : Apart T w' F v L := ⟨h.row.rAt, fun b e => ⟨fun k => by have := h.new b e; have := hF b k; omega, h.row.lt b e⟩⟩
/-- A row from ahead of the log. -/
theorem apart_old {w1 : World} (h : RAt T w v L) (hlt : ∀ b, v.ownBlock = some b → b < w.heap.size) (hF : ∀ b, F b → w.heap.size ≤ b) (hb : Below w.heap.size w w1) : Apart T w1 F v L := ⟨h.below hb, fun b e => ⟨fun k => by have := hlt b e; have := hF b k; omega, Nat.lt_of_lt_of_le (hlt b e) hb.size⟩⟩
end
end Go.Proofs.Ytiffdhihhggkhaa

/-
  LAYER 8 (rlog): shown, the head of every law.
-/
namespace Go.Proofs.Ytiffdhihhggkhaa
open Go.RowKit
set_option linter.unusedVariables false
set_option maxRecDepth 100000

def e0S : ByteArray := ⟨#[]⟩
def eS (i t : Int) : Me := ⟨i, t, 1, ⟨#[]⟩⟩
def lS : List Me := [eS 1 1, eS 2 1, eS 3 2]
def gS : Rl := ⟨0, 0, [], ⟨#[]⟩, lS⟩
def gS2 : Rl := ⟨0, 0, [], ⟨#[]⟩, [eS 1 1, eS 2 1, eS 3 3]⟩
def gS3 : Rl := ⟨2, 1, [], ⟨#[120]⟩, [eS 3 3]⟩
theorem newS : newL 0 0 [] ⟨#[]⟩ lS = gS := rfl
theorem termS : termL gS 3 = some 2 := rfl
theorem sliceS : sliceL gS 2 5 = lS.drop 1 := rfl
theorem newerS1 : newerL gS 2 2 = false := rfl
theorem newerS2 : newerL gS 9 1 = false := rfl
theorem newerS3 : newerL gS 3 2 = true := rfl
theorem matchS1 : matchL gS 3 2 0 [] = ((3, 0, true), gS) := rfl
theorem matchS2 : matchL gS 4 2 0 [] = ((3, 0, false), gS) := rfl
theorem matchS3 : matchL gS 2 2 0 [] = ((1, 0, false), gS) := rfl
theorem matchS4 : matchL gS 2 1 0 [eS 0 3] = ((3, 3, true), gS2) := rfl
theorem compactS : compactL gS2 2 ⟨#[120]⟩ = (0, gS3) := rfl
theorem termS3 : termL gS3 1 = none := rfl
theorem sliceS3 : sliceL gS3 1 9 = [] := rfl
theorem meB_eS (i t : Int) (h : -1000000 ≤ t ∧ t ≤ 1000000) : MeB (eS i t) := ⟨⟨by show _ ≤ t; omega, by show t ≤ _; omega⟩, ⟨show (-9223372036854775808 : Int) ≤ 1 by decide, show (1 : Int) ≤ 9223372036854775807 by decide⟩, show (⟨#[]⟩ : ByteArray).size ≤ 100000 by decide⟩
theorem gS_ok : RlB gS := ⟨⟨by decide, ((Rises.nil _).cons (x := eS 3 2) rfl |>.cons (x := eS 2 1) rfl |>.cons (x := eS 1 1) rfl)⟩, by decide, by decide, ⟨by decide, by decide⟩, fun x h => by simp [gS] at h, by decide, by decide, fun e h => by
  simp [gS, lS] at h
  rcases h with rfl | rfl | rfl <;> exact meB_eS _ _ (by omega)⟩
theorem gS2_ok : RlB gS2 := ⟨⟨by decide, ((Rises.nil _).cons (x := eS 3 3) rfl |>.cons (x := eS 2 1) rfl |>.cons (x := eS 1 1) rfl)⟩, by decide, by decide, ⟨by decide, by decide⟩, fun x h => by simp [gS2] at h, by decide, by decide, fun e h => by
  simp [gS2] at h
  rcases h with rfl | rfl | rfl <;> exact meB_eS _ _ (by omega)⟩
theorem gS3_ok : RlB gS3 := ⟨⟨by decide, ((Rises.nil _).cons (x := eS 3 3) rfl)⟩, by decide, by decide, ⟨by decide, by decide⟩, fun x h => by simp [gS3] at h, by decide, by decide, fun e h => by
  simp [gS3] at h
  subst h
  exact meB_eS _ _ (by omega)⟩
theorem apart_none {α : Type} {T : RowTy α} (w : World) (F : Nat → Prop) : Apart T w F (.slice none 0 0) [] := ⟨rAt_nil w, fun b e => by simp [Value.ownBlock] at e⟩
def ShownPost (w : World) (e : Ending) (w' : World) : Prop := e = .returned (.bool true) ∧ Below w.heap.size w w'
/-- Match and its like at a log at hand: what it leaves. -/
def MtPost (R : RlRep) (w0 w : World) (F : Nat → Prop) (r : Nat) (v : Value) (s : Rl) (e : Ending) (w' : World) : Prop := e = .returned v ∧ ∃ F', Lg R w0 w' F' r s ∧ Chg F w w' ∧ ∀ b, F' b → F b ∨ w.heap.size ≤ b
theorem mt_of {R : RlRep} {w0 w : World} {F : Nat → Prop} {r : Nat} {s s' : Rl} {v : Value} {f : FuncId} {args : Array Value} (h : Lg R w0 w F r s) (hb : RlB s') (hc : Calls Try.prog f args w fun e w' => e = .returned v ∧ Turn R F w w' r s') : Calls Try.prog f args w (MtPost R w0 w F r v s') :=
  hc.mono fun e w' ⟨he, F', hi, hch, hF⟩ => ⟨he, F', h.turn hi hch hF hb, hch, hF⟩
theorem shown_same {R : RlRep} {w0 w : World} {F : Nat → Prop} {g r : Nat} {s : Rl} {v1 : Value} (h1 : RAt enTy w v1 (lS.drop 1)) (hA : Apart enTy w F (.slice (some ⟨g, 0, none⟩) 3 3) lS) : Calls Try.prog 18 #[v1, .slice (some ⟨g, 4, none⟩) 2 2] w fun e w' => e = .returned (.bool true) ∧ Below w.heap.size w w' := by
  have h2 := (hA.row.drop enTy_ok (k := 1) (by decide)).1
  exact same_same h1 h2 (by decide)
theorem shown_new {R : RlRep} (HP : RlProg R) (w : World) : Calls Try.prog 13 #[.agg #[.int .i64 0, .int .i64 0, .slice none 0 0, .string ⟨#[]⟩], .slice (some ⟨w.heap.size, 0, none⟩) 3 3] (w.alloc (.cells #[.int .i64 1, .int .i64 1, .int .i64 1, .string ⟨#[]⟩, .int .i64 2, .int .i64 1, .int .i64 1, .string ⟨#[]⟩, .int .i64 3, .int .i64 2, .int .i64 1, .string ⟨#[]⟩] 49)) fun e w' => ∃ r F, e = .returned (.pointer (some ⟨r, 0, none⟩)) ∧ Lg R w w' F r gS ∧ Apart enTy w' F (.slice (some ⟨w.heap.size, 0, none⟩) 3 3) lS := by
  have hrow : RAt enTy (w.alloc (.cells #[.int .i64 1, .int .i64 1, .int .i64 1, .string ⟨#[]⟩, .int .i64 2, .int .i64 1, .int .i64 1, .string ⟨#[]⟩, .int .i64 3, .int .i64 2, .int .i64 1, .string ⟨#[]⟩] 49)) (.slice (some ⟨w.heap.size, 0, none⟩) 3 3) lS := rAt_own enTy_ok (own.new w _ _) rfl 3 rfl (by decide)
  have hb1 : Below w.heap.size w (w.alloc (.cells #[.int .i64 1, .int .i64 1, .int .i64 1, .string ⟨#[]⟩, .int .i64 2, .int .i64 1, .int .i64 1, .string ⟨#[]⟩, .int .i64 3, .int .i64 2, .int .i64 1, .string ⟨#[]⟩] 49)) := (Below.refl _ _).alloc (Nat.le_refl _) _
  have hc := HP.new 0 0 (.slice none 0 0) [] ⟨#[]⟩ _ lS (rAt_nil _) hrow (by rw [newS]; exact gS_ok) (by decide) (fun e h => by
    simp [lS] at h
    rcases h with rfl | rfl | rfl <;> exact ⟨meB_eS _ _ (by omega), by decide, by decide⟩)
  rw [newS] at hc
  refine hc.mono fun e w' h => ?_
  obtain ⟨r, F, rfl, hi, hn, hbb⟩ := h
  refine ⟨r, F, rfl, ⟨hi, fun b e => by have := hn b e; have := hb1.size; omega, hb1.trans (hbb.mono hb1.size), gS_ok⟩, apart_old hrow (fun b e => by cases e; simp) hn hbb⟩
set_option maxHeartbeats 16000000 in
theorem shown_any {R : RlRep} (HP : RlProg R) (w : World) : Calls Try.prog 9 #[] w (ShownPost w) := by
  have HN := hid (shown_new HP w)
  have HT : Hid (∀ wx F r, Lg R w wx F r gS → Calls Try.prog 28 #[.pointer (some ⟨r, 0, none⟩), .int .i64 3] wx fun e w' => e = .returned (.tuple #[.int .i64 2, .bool true]) ∧ Below wx.heap.size wx w') := hid (fun wx F r h => HP.term 3 h.is h.b ⟨by decide, by decide⟩)
  have HSl : Hid (∀ wx F r, Lg R w wx F r gS → Calls Try.prog 19 #[.pointer (some ⟨r, 0, none⟩), .int .i64 2, .int .i64 5] wx fun e w' => ∃ vv, e = .returned vv ∧ RMid enTy wx w' vv (lS.drop 1)) := hid (fun wx F r h => HP.slice 2 5 h.is h.b ⟨by decide, by decide⟩ ⟨by decide, by decide⟩)
  have HL : Hid (∀ wx F r, Lg R w wx F r gS → Calls Try.prog 24 #[.pointer (some ⟨r, 0, none⟩)] wx fun e w' => e = .returned (.int .i64 3) ∧ Below wx.heap.size wx w') := hid (fun wx F r h => HP.last h.is h.b)
  have HSa : Hid (∀ wx F g v1, RAt enTy wx v1 (lS.drop 1) → Apart enTy wx F (.slice (some ⟨g, 0, none⟩) 3 3) lS → Calls Try.prog 18 #[v1, .slice (some ⟨g, 4, none⟩) 2 2] wx fun e w' => e = .returned (.bool true) ∧ Below wx.heap.size wx w') := hid (fun wx F g v1 h1 h2 => same_same h1 (h2.row.drop enTy_ok (k := 1) (by decide)).1 (by decide))
  have HW : Hid (∀ i t b, newerL gS i t = b → I64' i → I64' t → ∀ wx F r, Lg R w wx F r gS → Calls Try.prog 21 #[.pointer (some ⟨r, 0, none⟩), .int .i64 i, .int .i64 t] wx fun e w' => e = .returned (.bool b) ∧ Below wx.heap.size wx w') := hid (fun i t b hb hi ht wx F r h => by
    have := HP.newer i t h.is h.b hi ht
    rw [hb] at this
    exact this)
  have HM : Hid (∀ (s s' : Rl) i t ev l n f b, matchL s i t 0 l = ((n, f, b), s') → RlB s' → l.length ≤ 1000 → (∀ e ∈ l, MeIs e) → I64' i → I64' t → s.bi = 0 → 0 ≤ s.last → ∀ wx F r, Lg R w wx F r s → Apart enTy wx F ev l → Calls Try.prog 25 #[.pointer (some ⟨r, 0, none⟩), .int .i64 i, .int .i64 t, .int .i64 0, ev] wx (MtPost R w wx F r (.tuple #[.int .i64 n, .int .i64 f, .bool b]) s')) := hid (fun s s' i t ev l n f b hm hb hl hme hi ht h0 h1 wx F r h ha => by
    have := HP.match_ i t 0 ev l h.is h.b ha hl hme hi ht (by omega) h1
    rw [hm] at this
    exact mt_of h hb this)
  have HC : Hid (∀ wx F r, Lg R w wx F r gS2 → Calls Try.prog 26 #[.pointer (some ⟨r, 0, none⟩), .int .i64 2, .string ⟨#[120]⟩] wx (MtPost R w wx F r (.int .i64 0) gS3)) := hid (fun wx F r h => by
    have := HP.compact 2 ⟨#[120]⟩ h.is h.b ⟨by decide, by decide⟩ (by decide)
    rw [compactS] at this
    exact mt_of h gS3_ok this)
  have HB : Hid (∀ wx F r, Lg R w wx F r gS3 → Calls Try.prog 27 #[.pointer (some ⟨r, 0, none⟩)] wx fun e w' => ∃ vv, e = .returned (.agg #[.int .i64 2, .int .i64 1, vv, .string ⟨#[120]⟩]) ∧ RTold numTy wx w' vv []) := hid (fun wx F r h => HP.base h.is h.b)
  have HT3 : Hid (∀ wx F r, Lg R w wx F r gS3 → Calls Try.prog 28 #[.pointer (some ⟨r, 0, none⟩), .int .i64 1] wx fun e w' => e = .returned (.tuple #[.int .i64 0, .bool false]) ∧ Below wx.heap.size wx w') := hid (fun wx F r h => HP.term 1 h.is h.b ⟨by decide, by decide⟩)
  have HSl3 : Hid (∀ wx F r, Lg R w wx F r gS3 → Calls Try.prog 19 #[.pointer (some ⟨r, 0, none⟩), .int .i64 1, .int .i64 9] wx fun e w' => ∃ a c, e = .returned (.slice a 0 c) ∧ Below wx.heap.size wx w') := hid (fun wx F r h => (HP.slice 1 9 h.is h.b ⟨by decide, by decide⟩ ⟨by decide, by decide⟩).mono fun e w' ⟨vv, he, hm⟩ => by
    obtain ⟨a, c, rfl, _⟩ := hm.row.slice
    exact ⟨a, c, he, hm.below⟩)
  have hi3 : ∀ n : Int, -1000 ≤ n → n ≤ 1000 → I64' n := fun n h1 h2 => ⟨by omega, by omega⟩
  have HNil := hid (fun (wx : World) (F : Nat → Prop) => apart_none (T := enTy) wx F)
  have HOne : Hid (∀ (wx : World) (F : Nat → Prop), (∀ b, F b → b < wx.heap.size) → Apart enTy (wx.alloc (.cells #[.int .i64 0, .int .i64 3, .int .i64 1, .string ⟨#[]⟩] 49)) F (.slice (some ⟨wx.heap.size, 0, none⟩) 1 1) [eS 0 3]) := hid (fun wx F hF => ⟨rAt_own enTy_ok (own.new wx _ _) rfl 1 rfl (by decide), fun b e => by
    have e2 : wx.heap.size = b := Option.some.inj e
    subst e2
    exact ⟨fun k => by have := hF _ k; omega, by simp⟩⟩)
  have HM1 := hid (fun wx F r h => HM.out gS gS 3 2 (.slice none 0 0) [] 3 0 true matchS1 gS_ok (by decide) (fun e h => by simp at h) (hi3 _ (by omega) (by omega)) (hi3 _ (by omega) (by omega)) rfl (by decide) wx F r h (HNil.out wx F))
  have HM2 := hid (fun wx F r h => HM.out gS gS 4 2 (.slice none 0 0) [] 3 0 false matchS2 gS_ok (by decide) (fun e h => by simp at h) (hi3 _ (by omega) (by omega)) (hi3 _ (by omega) (by omega)) rfl (by decide) wx F r h (HNil.out wx F))
  have HM3 := hid (fun wx F r h => HM.out gS gS 2 2 (.slice none 0 0) [] 1 0 false matchS3 gS_ok (by decide) (fun e h => by simp at h) (hi3 _ (by omega) (by omega)) (hi3 _ (by omega) (by omega)) rfl (by decide) wx F r h (HNil.out wx F))
  have HM4 := hid (fun wx F r (h : Lg R w wx F r gS) => HM.out gS gS2 2 1 (.slice (some ⟨wx.heap.size, 0, none⟩) 1 1) [eS 0 3] 3 3 true matchS4 gS2_ok (by decide) (fun e h => by simp at h; subst h; exact ⟨meB_eS _ _ (by omega), by decide, by decide⟩) (hi3 _ (by omega) (by omega)) (hi3 _ (by omega) (by omega)) rfl (by decide) _ F r (h.later ((Below.refl _ wx).alloc (Nat.le_refl _) _)) (HOne.out wx F (fun b e => R.lt h.is b e)))
  have HW1 := hid (HW.out 2 2 false newerS1 (hi3 _ (by omega) (by omega)) (hi3 _ (by omega) (by omega)))
  have HW2 := hid (HW.out 9 1 false newerS2 (hi3 _ (by omega) (by omega)) (hi3 _ (by omega) (by omega)))
  have HW3 := hid (HW.out 3 2 true newerS3 (hi3 _ (by omega) (by omega)) (hi3 _ (by omega) (by omega)))
  clear HP HW HM hi3 HNil HOne
  go_enter Try.func9, Try.ntmps9
  go_wp2_with (first
      | (go_at_call 13; (with_reducible refine HN.out.mono ?_); rintro e w2 ⟨r, F, rfl, hL, hA⟩; have L2 := hid hL; have A2 := hid hA; have C := hid (HT.out _ _ _ hL); clear hL hA)
      | (go_at_call 28; (with_reducible refine C.out.mono ?_); rintro e w3 ⟨rfl, hb⟩; have L3 := hid (L2.out.later hb); have A3 := hid (A2.out.below hb); have C2 := hid (HSl.out _ _ _ L3.out); clear hb)
      | (go_at_call 19; (with_reducible refine C2.out.mono ?_); rintro e w4 ⟨vv, rfl, hm⟩; have L4 := hid (L3.out.later hm.below); have A4 := hid (A3.out.below hm.below); have C3 := hid (HL.out _ _ _ L4.out); have M4 := hid hm; clear hm)
      | (go_at_call 24; (with_reducible refine C3.out.mono ?_); rintro e w5 ⟨rfl, hb⟩; have L5 := hid (L4.out.later hb); have C4 := hid (HSa.out _ _ _ _ (M4.out.row.rAt.below hb) (A4.out.below hb)); clear hb)
      | (go_at_call 18; (with_reducible refine C4.out.mono ?_); rintro e w6 ⟨rfl, hb⟩; have L6 := hid (L5.out.later hb); have C5 := hid (HW1.out _ _ _ L6.out); clear hb)
      | (go_at_call 21; (with_reducible refine C5.out.mono ?_); rintro e w7 ⟨rfl, hb⟩; have L7 := hid (L6.out.later hb); have C6 := hid (HW2.out _ _ _ L7.out); clear hb)
      | (go_at_call 21; (with_reducible refine C6.out.mono ?_); rintro e w8 ⟨rfl, hb⟩; have L8 := hid (L7.out.later hb); have C7 := hid (HW3.out _ _ _ L8.out); clear hb)
      | (go_at_call 21; (with_reducible refine C7.out.mono ?_); rintro e w9 ⟨rfl, hb⟩; have L9 := hid (L8.out.later hb); have C8 := hid (HM1.out _ _ _ L9.out); clear hb)
      | (go_at_call 25; (with_reducible refine C8.out.mono ?_); rintro e w10 ⟨rfl, F1, hL, -, -⟩; have L10 := hid hL; have C9 := hid (HM2.out _ _ _ hL); clear hL)
      | (go_at_call 25; (with_reducible refine C9.out.mono ?_); rintro e w11 ⟨rfl, F2, hL, -, -⟩; have L11 := hid hL; have C10 := hid (HM3.out _ _ _ hL); clear hL)
      | (go_at_call 25; (with_reducible refine C10.out.mono ?_); rintro e w12 ⟨rfl, F3, hL, -, -⟩; have L12 := hid hL; have C11 := hid (HM4.out _ _ _ hL); clear hL)
      | (go_at_call 25; (with_reducible refine C11.out.mono ?_); rintro e w13 ⟨rfl, F4, hL, -, -⟩; have L13 := hid hL; have C12 := hid (HC.out _ _ _ hL); clear hL)
      | (go_at_call 26; (with_reducible refine C12.out.mono ?_); rintro e w14 ⟨rfl, F5, hL, -, -⟩; have L14 := hid hL; have C13 := hid (HB.out _ _ _ hL); clear hL)
      | (go_at_call 27; (with_reducible refine C13.out.mono ?_); rintro e w15 ⟨vb, rfl, hm⟩; obtain ⟨ba, bc, rfl, -⟩ := hm.row.slice; have hb := hm.below; have hb2 := hb.alloc hb.size (.cells #[.int .i64 2, .int .i64 1, .slice ba 0 bc, .string ⟨#[120]⟩] 33); have L15 := hid (L14.out.later hb2); have C14 := hid (HT3.out _ _ _ L15.out); have hbx : own (w15.alloc (.cells #[.int .i64 2, .int .i64 1, .slice ba 0 bc, .string ⟨#[120]⟩] 33)) w15.heap.size #[.int .i64 2, .int .i64 1, .slice ba 0 bc, .string ⟨#[120]⟩] 33 := own.new w15 _ _; have HBx := hid hbx; clear hm hb hb2 hbx)
      | (go_at_call 28; (with_reducible refine C14.out.mono ?_); rintro e w16 ⟨rfl, hb⟩; have L16 := hid (L15.out.later hb); have C15 := hid (HSl3.out _ _ _ L16.out); have k0 := ((HBx.out.same (hb.block _ HBx.out.lt)).cell 0).trans rfl; have k1 := ((HBx.out.same (hb.block _ HBx.out.lt)).cell 1).trans rfl; clear hb)
      | (go_at_call 19; (with_reducible refine C15.out.mono ?_); rintro e w17 ⟨sa, sc, rfl, hb⟩; have L17 := hid (L16.out.later hb); clear hb))
  go_ret
  exact ⟨rfl, L17.out.below⟩
end Go.Proofs.Ytiffdhihhggkhaa

/-
  LAYER 8 (rlog): the log that a law makes of a base and parts.
-/
namespace Go.Proofs.Ytiffdhihhggkhaa
open Go.RowKit
set_option linter.unusedVariables false
set_option maxRecDepth 100000

theorem smallP_of {l : List Pa} (h : smallP l = true) : l.length ≤ 60 ∧ ∀ p ∈ l, p.dt.size ≤ 300 ∧ p.V.length ≤ 30 := by
  unfold smallP smOne at h
  simp only [Bool.and_eq_true, decide_eq_true_eq, List.all_eq_true] at h
  exact h
theorem eV_size {xs : List Int} (hx : ∀ x ∈ xs, I64' x) (hl : xs.length ≤ 30) : (mk (eV xs)).size ≤ 400 := by
  have h1 := encs_len xs (fun x h => hx x h)
  have h2 := eI_len (n := (xs.length : Int)) ⟨by omega, by omega⟩
  show (eV xs).length ≤ _
  unfold eV
  rw [List.length_append]
  omega
theorem meB_entE {W : World} {p : Pa} (h : PaIn W p) (h1 : p.dt.size ≤ 300 ∧ p.V.length ≤ 30) (i : Int) : MeB (entE p i) := by
  have a := pickZ_range p.term 9 (by omega)
  have b := pickZ_range p.kind 3 (by omega)
  refine ⟨⟨by show _ ≤ pickZ p.term 9; omega, by show pickZ p.term 9 ≤ _; omega⟩, ⟨by show _ ≤ 1 + pickZ p.kind 3; omega, by show 1 + pickZ p.kind 3 ≤ _; omega⟩, ?_⟩
  show (if 0 < p.V.length then mk (eV p.V) else p.dt).size ≤ 100000
  split
  · have := eV_size h.num h1.2; omega
  · omega
theorem entsE_mem : ∀ (l : List Pa) (i : Int) (e : Me), e ∈ entsE l i → ∃ p ∈ l, ∃ j : Int, i ≤ j ∧ j < i + l.length ∧ e = entE p j
  | [], i, e, h => by simp [entsE] at h
  | p :: r, i, e, h => by
    rcases List.mem_cons.1 h with rfl | h
    · exact ⟨p, by simp, i, Int.le_refl _, by simp only [List.length_cons]; push_cast; omega, rfl⟩
    · obtain ⟨q, hq, j, h1, h2, h3⟩ := entsE_mem r (i + 1) e h
      exact ⟨q, by simp [hq], j, by omega, by simp only [List.length_cons]; push_cast; omega, h3⟩
theorem meIs_entsE {W : World} {l : List Pa} (h : ∀ p ∈ l, PaIn W p) (hs : smallP l = true) {i : Int} (hi : 0 ≤ i ∧ i ≤ 10000) : ∀ e ∈ entsE l i, MeIs e := fun e he => by
  obtain ⟨h1, h2⟩ := smallP_of hs
  obtain ⟨p, hp, j, a, b, rfl⟩ := entsE_mem l i e he
  exact ⟨meB_entE (h p hp) (h2 p hp) j, by show _ ≤ j; omega, by show j ≤ _; omega⟩
/-- base(b, t) and entries behind it. -/
def logOf (b t : Int) (l : List Pa) : Rl := ⟨pickZ b 30, pickZ t 9, [1, 2, 3], bB, entsE l (pickZ b 30 + 1)⟩
theorem logOf_new (b t : Int) (l : List Pa) : newL (pickZ b 30) (pickZ t 9) [1, 2, 3] bB (entsE l (pickZ b 30 + 1)) = logOf b t l := by
  unfold newL logOf
  rw [nextE_self _ _ (entsE_rises l (pickZ b 30))]
theorem logOf_b {W : World} (b t : Int) {l : List Pa} (h : ∀ p ∈ l, PaIn W p) (hs : smallP l = true) : RlB (logOf b t l) := by
  have a := pickZ_range b 30 (by omega)
  have c := pickZ_range t 9 (by omega)
  obtain ⟨h1, h2⟩ := smallP_of hs
  refine ⟨⟨a.1, entsE_rises l (pickZ b 30)⟩, by show pickZ b 30 ≤ _; omega, by show (entsE l _).length ≤ _; rw [entsE_len]; omega, ⟨by show _ ≤ pickZ t 9; omega, by show pickZ t 9 ≤ _; omega⟩, ?_, by show ([1, 2, 3] : List Int).length ≤ 1000; decide, by show bB.size ≤ _; decide, fun e he => (meIs_entsE h hs (by omega) e he).1⟩
  intro x hx
  simp [logOf] at hx
  rcases hx with rfl | rfl | rfl <;> exact ⟨by decide, by decide⟩
theorem logOf_last (b t : Int) (l : List Pa) : (logOf b t l).last = pickZ b 30 + l.length := by
  unfold Rl.last logOf
  rw [entsE_len]
/-- Entries of parts, from anywhere that lies behind. -/
theorem entries_at {w : World} {v : Value} {l : List Pa} (hv : RAt pTy w v l) (hin : ∀ p ∈ l, PaIn w p) (hs : smallP l = true) (fr : Int) (hf : -1000000 ≤ fr ∧ fr ≤ 1000000) (wx : World) (hb : Below w.heap.size w wx) :
    Calls Try.prog 11 #[v, .int .i64 fr] wx (EsPost wx (entsE l fr)) := by
  obtain ⟨h1, h2⟩ := smallP_of hs
  exact entries_any fr (hv.below hb) (fun p hp => (hin p hp).below hb) (fun p hp => by have := (h2 p hp).2; omega) (by omega) hf
/-- New of base(b, t) and of entries behind it. -/
theorem new_at {R : RlRep} (HP : RlProg R) {W wx : World} {l : List Pa} (hin : ∀ p ∈ l, PaIn W p) (hs : smallP l = true) (b t : Int) (g : Nat) (ev : Value) (hvv : RAt numTy wx (.slice (some ⟨g, 0, none⟩) 3 3) [1, 2, 3]) (hev : RAt enTy wx ev (entsE l (pickZ b 30 + 1))) :
    Calls Try.prog 13 #[.agg #[.int .i64 (pickZ b 30), .int .i64 (pickZ t 9), .slice (some ⟨g, 0, none⟩) 3 3, .string bB], ev] wx (NewPost R wx (logOf b t l)) := by
  have a := pickZ_range b 30 (by omega)
  obtain ⟨h1, h2⟩ := smallP_of hs
  have := HP.new (pickZ b 30) (pickZ t 9) _ [1, 2, 3] bB ev (entsE l (pickZ b 30 + 1)) hvv hev (by rw [logOf_new]; exact logOf_b b t hin hs) (by rw [entsE_len]; omega) (meIs_entsE hin hs (by omega))
  rw [logOf_new] at this
  exact this
end Go.Proofs.Ytiffdhihhggkhaa

/-
  LAYER 8 (rlog): a base in its box.
-/
namespace Go.Proofs.Ytiffdhihhggkhaa
open Go.RowKit
set_option linter.unusedVariables false
set_option maxRecDepth 100000

structure BxAt (wx : World) (x g : Nat) (b t : Int) : Prop where
  box : own wx x #[.int .i64 (pickZ b 30), .int .i64 (pickZ t 9), .slice (some ⟨g, 0, none⟩) 3 3, .string bB] 33
  row : RAt numTy wx (.slice (some ⟨g, 0, none⟩) 3 3) [1, 2, 3]
  glt : g < wx.heap.size
theorem BxAt.below {w w' : World} {x g : Nat} {b t : Int} (h : BxAt w x g b t) (hb : Below w.heap.size w w') : BxAt w' x g b t := ⟨h.box.same (hb.block _ h.box.lt), h.row.below hb, Nat.lt_of_lt_of_le h.glt hb.size⟩
theorem BxAt.turn {w w' : World} {x g : Nat} {b t : Int} {F : Nat → Prop} (h : BxAt w x g b t) (hc : Chg F w w') (hx : ¬ F x) (hg : ¬ F g) : BxAt w' x g b t :=
  ⟨h.box.same (hc.block _ h.box.lt hx), h.row.same (fun k e hl => hc.block k hl (fun hk => by cases e; exact hg hk)) hc.size, Nat.lt_of_lt_of_le h.glt hc.size⟩
theorem bx_new {w w3 : World} {g : Nat} {F : Nat → Prop} (hm : RMid numTy w w3 (.slice (some ⟨g, 0, none⟩) 3 3) [1, 2, 3]) (hF : ∀ b, F b → b < w.heap.size) : ¬ F w3.heap.size ∧ ¬ F g :=
  ⟨fun k => by have := hF _ k; have := hm.below.size; omega, fun k => by have := hF _ k; have := hm.new g rfl; omega⟩
/-- base has answered, and its answer is laid. -/
theorem bx_of {w w3 : World} {g : Nat} {b t : Int} (hm : RMid numTy w w3 (.slice (some ⟨g, 0, none⟩) 3 3) [1, 2, 3]) : BxAt (w3.alloc (.cells #[.int .i64 (pickZ b 30), .int .i64 (pickZ t 9), .slice (some ⟨g, 0, none⟩) 3 3, .string bB] 33)) w3.heap.size g b t :=
  ⟨own.new w3 _ _, hm.row.rAt.below ((Below.refl _ _).alloc (Nat.le_refl _) _), by have := hm.row.lt g rfl; simp; omega⟩
theorem bx_s {w wx : World} {x g : Nat} {b t : Int} (h : BxAt wx x g b t) (hb : Below w.heap.size w wx) : wx.cell? ⟨x, 0, none⟩ = some (.int .i64 (pickZ b 30)) ∧ wx.cell? ⟨x, 1, none⟩ = some (.int .i64 (pickZ t 9)) ∧ wx.cell? ⟨x, 2, none⟩ = some (.slice (some ⟨g, 0, none⟩) 3 3) ∧ wx.cell? ⟨x, 3, none⟩ = some (.string bB) ∧ Below w.heap.size w wx :=
  ⟨(h.box.cell 0).trans rfl, (h.box.cell 1).trans rfl, (h.box.cell 2).trans rfl, (h.box.cell 3).trans rfl, hb⟩
theorem lg_made {R : RlRep} {w0 wc w5 w6 : World} {F : Nat → Prop} {r : Nat} {s : Rl} (h0 : Below w0.heap.size w0 wc) (h5 : Below wc.heap.size wc w5) (hi : R.Is w6 F r s) (hn : ∀ b, F b → w5.heap.size ≤ b) (hbb : Below w5.heap.size w5 w6) (hb : RlB s) : Lg R w0 w6 F r s := by
  have h1 := h0.trans (h5.mono h0.size)
  exact ⟨hi, fun b e => by have := hn b e; have := h1.size; omega, h1.trans (hbb.mono h1.size), hb⟩
theorem base_field1 (wx : World) (x0 x1 vb x3 : Value) (h : ∃ n, x1 = .int .i64 n) : (Instr.field 33 (.agg #[x0, x1, vb, x3]) 1).run Try.prog wx = .ok x1 wx := by
  obtain ⟨n, rfl⟩ := h
  simp [Instr.field, run_underlying Try.underlying33, go_sem, asAgg, Result.andThen]
theorem wrap_b (b : Int) : IntKind.i64.wrap (pickZ b 30 + 1) = pickZ b 30 + 1 := by
  have := pickZ_range b 30 (by omega)
  rw [IntKind.wrap_i64]
  omega
theorem last_i64 {s : Rl} (h : RlB s) : I64' s.last := by
  have := h.last
  exact ⟨by omega, by omega⟩
theorem lastT_i64 {s : Rl} (h : RlB s) : I64' (lastT s) := by
  unfold lastT termL
  split
  · exact h.bt
  · split
    · exact ⟨by decide, by decide⟩
    · cases hg : s.ents[(s.last - s.bi - 1).toNat]? with
      | none => exact ⟨by decide, by decide⟩
      | some x => exact (h.ents x (List.mem_of_getElem? hg)).term
end Go.Proofs.Ytiffdhihhggkhaa

/-
  LAYER 8 (rlog): the size of a log behind each call.
-/
namespace Go.Proofs.Ytiffdhihhggkhaa
open Go.RowKit
set_option linter.unusedVariables false
set_option maxRecDepth 100000

theorem termL_i64 {s : Rl} (h : RlB s) (i : Int) : I64' ((termL s i).getD 0) := by
  unfold termL
  split
  · exact h.bt
  · split
    · exact ⟨by decide, by decide⟩
    · cases hg : s.ents[(i - s.bi - 1).toNat]? with
      | none => exact ⟨by decide, by decide⟩
      | some x => exact (h.ents x (List.mem_of_getElem? hg)).term
theorem setsE_b {e : Me} {l : List Int} (h : setsE e = some l) : (∀ x ∈ l, I64' x) ∧ l.length ≤ 9 := by
  unfold setsE at h
  split at h
  · split at h
    · split at h
      · rename_i hr
        cases h
        obtain ⟨h1, h2⟩ := risingF_len l 0 hr (by omega)
        exact ⟨fun x hx => ⟨by have := h2 x hx; omega, by have := h2 x hx; omega⟩, by omega⟩
      · cases h
    · cases h
  · cases h
theorem votersIn_b : ∀ (l : List Me) (o : List Int) (i : Int), (∀ x ∈ o, I64' x) → o.length ≤ 1000 → (∀ x ∈ votersIn o i l, I64' x) ∧ (votersIn o i l).length ≤ 1000
  | [], o, i, h1, h2 => ⟨h1, h2⟩
  | e :: r, o, i, h1, h2 => by
    unfold votersIn
    cases hs : setsE e with
    | none => exact votersIn_b r o i h1 h2
    | some l =>
      obtain ⟨h3, h4⟩ := setsE_b hs
      by_cases hc : e.idx ≤ i
      · simp only [if_pos hc]; exact votersIn_b r l i h3 (by omega)
      · simp only [if_neg hc]; exact votersIn_b r o i h1 h2
theorem RlB.compact {g : Rl} (h : RlB g) (i : Int) (d : ByteArray) (hd : d.size ≤ 100000) (hi : i ≤ 100000) : RlB (compactL g i d).2 := by
  by_cases hc : i ≤ g.bi ∨ g.last < i
  · unfold compactL; rw [if_pos hc]; exact h
  · have hok := compact_ok h.ok i d
    unfold compactL at hok ⊢
    rw [if_neg hc] at hok ⊢
    obtain ⟨h3, h4⟩ := votersIn_b g.ents g.vot i h.vot h.vl
    exact ⟨hok, hi, by show (g.ents.drop _).length ≤ _; rw [List.length_drop]; have := h.len; omega, termL_i64 h i, h3, h4, hd, fun e he => h.ents e (List.mem_of_mem_drop he)⟩
theorem RlB.add {g : Rl} (h : RlB g) (t k : Int) (d : ByteArray) (ht : I64' t) (hk : I64' k) (hd : d.size ≤ 100000) (hl : g.ents.length < 5000) : RlB (addL g t k d) :=
  ⟨addL_ok h.ok t k d, h.bi, by show (g.ents ++ [_]).length ≤ _; rw [List.length_append]; simp; omega, h.bt, h.vot, h.vl, h.bd, fun e he => by
    rcases List.mem_append.1 (show e ∈ g.ents ++ [addE g t k d] from he) with he | he
    · exact h.ents e he
    · simp at he; subst he; exact ⟨ht, hk, hd⟩⟩
theorem reidx_mem : ∀ (l : List Me) (i : Int) (e : Me), e ∈ reidx i l → ∃ x ∈ l, e.term = x.term ∧ e.kind = x.kind ∧ e.dt = x.dt
  | [], i, e, h => by simp [reidx] at h
  | x :: r, i, e, h => by
    rcases List.mem_cons.1 (show e ∈ { x with idx := i + 1 } :: reidx (i + 1) r from h) with rfl | h
    · exact ⟨x, by simp, rfl, rfl, rfl⟩
    · obtain ⟨y, hy, h1⟩ := reidx_mem r (i + 1) e h
      exact ⟨y, by simp [hy], h1⟩
theorem match_len {g : Rl} (index term fixed : Int) (l : List Me) : (matchL g index term fixed l).2.ents.length ≤ g.ents.length + l.length ∧ (matchL g index term fixed l).2.bi = g.bi := by
  unfold matchL
  split
  · exact ⟨by show g.ents.length ≤ _; omega, rfl⟩
  · split
    · exact ⟨by show g.ents.length ≤ _; omega, rfl⟩
    · split
      · exact ⟨by show g.ents.length ≤ _; omega, rfl⟩
      · refine ⟨?_, rfl⟩
        show (_ ++ _ : List Me).length ≤ _
        rw [List.length_append, List.length_take, reidx_len, List.length_drop]
        omega
theorem RlB.match_ {g : Rl} (h : RlB g) (index term fixed : Int) (l : List Me) (hl : ∀ e ∈ l, MeIs e) (hf : g.bi ≤ fixed) (hfl : fixed ≤ g.last) (hn : g.ents.length + l.length ≤ 5000) : RlB (matchL g index term fixed l).2 := by
  have hok := match_ok h.ok (index := index) (term := term) (l := l) hf hfl
  have hlen := (match_len (g := g) index term fixed l).1
  unfold matchL at hok hlen ⊢
  split
  · exact h
  · split
    · exact h
    · split
      · exact h
      · rename_i h1 h2 x0 k hk
        rw [if_neg h1, if_neg h2, hk] at hok hlen
        refine ⟨hok, h.bi, Nat.le_trans hlen hn, h.bt, h.vot, h.vl, h.bd, fun e he => ?_⟩
        rcases List.mem_append.1 (show e ∈ g.ents.take _ ++ reidx _ (l.drop k) from he) with he | he
        · exact h.ents e (List.mem_of_mem_take he)
        · obtain ⟨x, hx, e1, e2, e3⟩ := reidx_mem _ _ _ he
          obtain ⟨a, b, c⟩ := (hl x (List.mem_of_mem_drop hx)).1
          exact ⟨by rw [e1]; exact a, by rw [e2]; exact b, by rw [e3]; exact c⟩
theorem RlB.restore {g : Rl} (h : RlB g) (bi bt : Int) (vot : List Int) (bd : ByteArray) (h0 : 0 ≤ bi) (h1 : bi ≤ 100000) (h2 : I64' bt) (h3 : ∀ x ∈ vot, I64' x) (h4 : vot.length ≤ 1000) (h5 : bd.size ≤ 100000) : RlB (restoreL g bi bt vot bd).2 := by
  refine ⟨restore_ok h.ok _ _ _ _ h0, h1, ?_, h2, h3, h4, h5, fun e he => ?_⟩
  · show (if _ then _ else _ : List Me).length ≤ 5000
    split
    · rw [List.length_drop]; have := h.len; omega
    · simp
  · have he2 : e ∈ (if termL g bi = some bt then g.ents.drop (bi - g.bi).toNat else []) := he
    split at he2
    · exact h.ents e (List.mem_of_mem_drop he2)
    · simp at he2
theorem base_field0 (wx : World) (x0 x1 vb x3 : Value) (h : ∃ n, x0 = .int .i64 n) : (Instr.field 33 (.agg #[x0, x1, vb, x3]) 0).run Try.prog wx = .ok x0 wx := by
  obtain ⟨n, rfl⟩ := h
  simp [Instr.field, run_underlying Try.underlying33, go_sem, asAgg, Result.andThen]
theorem base_field3 (wx : World) (x0 x1 vb x3 : Value) (h : ∃ n, x3 = .string n) : (Instr.field 33 (.agg #[x0, x1, vb, x3]) 3).run Try.prog wx = .ok x3 wx := by
  obtain ⟨n, rfl⟩ := h
  simp [Instr.field, run_underlying Try.underlying33, go_sem, asAgg, Result.andThen]
end Go.Proofs.Ytiffdhihhggkhaa

