/-
  LAYER 11 (xml), PLAIN MATHEMATICS: two texts with a tag between; a comment, an instruction and tags with blanks around a text.
-/
import Derived.Test.YtaefdknaidbplaaGreatDoorXmMath3
namespace Go.Proofs.YtaefdknaidbplaaGreatDoor
set_option linter.unusedVariables false
set_option maxRecDepth 100000

def qq : List TkX := [openT [113] [], closeT [113]]
theorem tag_q : tagX [113, 47, 62] = some (qq, []) := by decide +kernel
theorem part_q : partX [60, 113, 47, 62] = some (.tags qq, []) := by
  rw [partX_tag (by decide +kernel), tag_q]
  rfl
theorem read_parts {s : List UInt8} {l : List TkX} {n : Nat} (h : readX s = (some l, n)) : (partsX s).2 = none ∧ l = tokX [] (partsX s).1 ∧ n = 0 := by
  unfold readX at h
  split at h
  · rename_i h2; cases h; exact ⟨h2, rfl, rfl⟩
  · cases h
theorem read_parts_bad {s : List UInt8} {n : Nat} (h : readX s = (none, n)) : ∃ r, (partsX s).2 = some r ∧ n = s.length - r.length := by
  unfold readX at h
  split at h
  · cases h
  · rename_i r h2; cases h; exact ⟨r, h2, rfl⟩
theorem parts_join {s t : List UInt8} (h : (partsX s).2 = none) : partsX (s ++ [60, 113, 47, 62] ++ t) = ((partsX s).1 ++ .tags qq :: (partsX t).1, (partsX t).2) := by
  have hp := partX_app t part_q
  rw [List.nil_append] at hp
  rw [List.append_assoc, partsX_append _ h, partsX_some hp]
theorem read_join {s t : List UInt8} {l m : List TkX} {n k : Nat} (h : readX s = (some l, n)) (h2 : readX t = (some m, k)) : readX (s ++ [60, 113, 47, 62] ++ t) = (some (l ++ qq ++ m), 0) := by
  obtain ⟨a1, a2, a3⟩ := read_parts h
  obtain ⟨b1, b2, b3⟩ := read_parts h2
  have hj := parts_join (t := t) a1
  unfold readX
  rw [hj]
  simp only [b1]
  rw [tokX_app, ← a2, ← b2]
theorem read_join_bad {s t : List UInt8} {l : List TkX} {n k : Nat} (h : readX s = (some l, n)) (h2 : readX t = (none, k)) : readX (s ++ [60, 113, 47, 62] ++ t) = (none, s.length + 4 + k) := by
  obtain ⟨a1, a2, a3⟩ := read_parts h
  obtain ⟨r, b1, b2⟩ := read_parts_bad h2
  have hr := partsX_rest t.length (Nat.le_refl _) b1
  have hj := parts_join (t := t) a1
  unfold readX
  rw [hj]
  simp only [b1]
  simp
  omega
theorem upTo_first {c : UInt8} {e : List UInt8} (u : List UInt8) : ∀ {s : List UInt8}, c ∉ s → upTo (c :: e) (s ++ (c :: e ++ u)) = some (s, u)
  | [], _ => by
    rw [List.nil_append, List.cons_append]
    unfold upTo
    rw [if_pos (by simp [List.isPrefixOf_iff_prefix])]
    simp
  | a :: s, h => by
    have h1 : a ≠ c := fun e => h (by simp [e])
    have h2 : c ∉ s := fun e => h (by simp [e])
    rw [List.cons_append]
    unfold upTo
    rw [if_neg (by simp [List.isPrefixOf, Ne.symm h1]), upTo_first u h2]
    rfl
theorem part_comment {c : List UInt8} (h : (45 : UInt8) ∉ c) (u : List UInt8) : partX ([60, 33, 45, 45] ++ c ++ [45, 45, 62] ++ u) = some (.txt [], u) := by
  have e : [60, 33, 45, 45] ++ c ++ [45, 45, 62] ++ u = 60 :: 33 :: 45 :: 45 :: (c ++ (45 :: [45, 62] ++ u)) := by simp
  rw [e, partX_comment]
  unfold eComment
  rw [upTo_first u h]
  rfl
theorem part_instr {c : List UInt8} (h : (63 : UInt8) ∉ c) (u : List UInt8) : partX ([60, 63] ++ c ++ [63, 62] ++ u) = some (.txt [], u) := by
  have e : [60, 63] ++ c ++ [63, 62] ++ u = 60 :: 63 :: (c ++ (63 :: [62] ++ u)) := by simp
  rw [e, partX_instr]
  unfold eInstr
  rw [upTo_first u h]
  rfl
/-- The blanks of the law. -/
def blkX : Nat → List UInt8
  | 0 => [32]
  | 1 => [9]
  | 2 => [10, 13]
  | _ => []
def tailX (b : List UInt8) : List UInt8 := [60, 113] ++ b ++ [47, 62, 60, 114] ++ b ++ [62, 60, 47, 114] ++ b ++ [62]
def tailT : List TkX := [openT [113] [], closeT [113], openT [114] [], closeT [114]]
theorem tag_qb : ∀ k, k < 4 → tagX ([113] ++ blkX k ++ [47, 62]) = some ([openT [113] [], closeT [113]], []) ∧ tagX ([114] ++ blkX k ++ [62]) = some ([openT [114] []], []) ∧ endX ([114] ++ blkX k ++ [62]) = some ([closeT [114]], []) ∧ (nameX ([113] ++ blkX k ++ [47, 62])).1 ≠ [] ∧ (nameX ([114] ++ blkX k ++ [62])).1 ≠ [] := by decide +kernel
theorem parts_tail {k : Nat} (hk : k < 4) : ∃ A B C, partsX (tailX (blkX k)) = ([.tags A, .tags B, .tags C], none) ∧ A ++ B ++ C = tailT := by
  obtain ⟨h1, h2, h3, h4, h5⟩ := tag_qb k hk
  have p1 : partX (60 :: ([113] ++ blkX k ++ [47, 62])) = some (.tags [openT [113] [], closeT [113]], []) := by rw [partX_tag h4, h1]; rfl
  have p2 : partX (60 :: ([114] ++ blkX k ++ [62])) = some (.tags [openT [114] []], []) := by rw [partX_tag h5, h2]; rfl
  have p3 : partX (60 :: 47 :: ([114] ++ blkX k ++ [62])) = some (.tags [closeT [114]], []) := by rw [partX_end, h3]; rfl
  have q2 := partX_app (60 :: 47 :: ([114] ++ blkX k ++ [62])) p2
  have q1 := partX_app (60 :: ([114] ++ blkX k ++ [62]) ++ (60 :: 47 :: ([114] ++ blkX k ++ [62]))) p1
  rw [List.nil_append] at q1 q2
  refine ⟨[openT [113] [], closeT [113]], [openT [114] []], [closeT [114]], ?_, rfl⟩
  have e : tailX (blkX k) = 60 :: ([113] ++ blkX k ++ [47, 62]) ++ (60 :: ([114] ++ blkX k ++ [62]) ++ (60 :: 47 :: ([114] ++ blkX k ++ [62]))) := by simp [tailX]
  rw [e, partsX_some q1, partsX_some q2, partsX_some p3, partsX_nil]
theorem read_silent {s c : List UInt8} {l : List TkX} {n k : Nat} (h : readX s = (some l, n)) (h1 : (45 : UInt8) ∉ c) (h2 : (63 : UInt8) ∉ c) (hk : k < 4) :
    readX ([60, 33, 45, 45] ++ c ++ [45, 45, 62] ++ (s ++ ([60, 63] ++ c ++ [63, 62] ++ tailX (blkX k)))) = (some (l ++ tailT), 0) := by
  obtain ⟨a1, a2, a3⟩ := read_parts h
  obtain ⟨A, B, C, ht, hABC⟩ := parts_tail hk
  unfold readX
  rw [partsX_some (part_comment h1 _), partsX_append _ a1, partsX_some (part_instr h2 _), ht]
  simp only
  have e : tokX [] (PtX.txt [] :: ((partsX s).1 ++ PtX.txt [] :: [.tags A, .tags B, .tags C])) = l ++ tailT := by
    have e2 : ∀ (ps : List PtX) (w : List UInt8), tokX w (ps ++ PtX.txt [] :: [.tags A, .tags B, .tags C]) = tokX w (ps ++ .tags A :: [.tags B, .tags C]) := by
      intro ps
      induction ps with
      | nil => intro w; simp [tokX]
      | cons p ps ih =>
        intro w
        cases p with
        | txt t => simp only [List.cons_append, tokX]; exact ih _
        | tags T => simp only [List.cons_append, tokX]; rw [ih]
    show tokX ([] ++ []) _ = _
    rw [List.append_nil, e2, tokX_app, ← a2, ← hABC]
    simp [tokX, endW]
  rw [e]
end Go.Proofs.YtaefdknaidbplaaGreatDoor
