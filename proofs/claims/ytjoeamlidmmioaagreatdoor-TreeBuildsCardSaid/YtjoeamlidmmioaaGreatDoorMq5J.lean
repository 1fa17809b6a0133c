import Derived.Test.YtjoeamlidmmioaaGreatDoorMq1J
/-
  LAYER 11 (xml), PLAIN MATHEMATICS: two texts with a tag between; a comment, an instruction and tags with blanks around a text.
-/
namespace Go.Proofs.YtjoeamlidmmioaaGreatDoor
set_option linter.unusedVariables false
set_option maxRecDepth 100000

def qq : List TkX := [openT [113] [], closeT [113]]
theorem tag_q : tagX [113, 47, 62] = some (qq, []) := by decide +kernel
theorem part_q : partX [60, 113, 47, 62] = some (.tags qq, []) := by
  rw [partX_tag (by decide +kernel), tag_q]
  rfl
theorem read_parts {s : List UInt8} {l : List TkX} {n : Nat} (h : readX s = (some l, n)) : (partsX s).2 = none ∧ l = tokX [] (partsX s).1 ∧ n = 0 := by
  unfold readX at h
  split at h
  · rename_i h2; cases h; exact ⟨h2, rfl, rfl⟩
  · cases h
theorem read_parts_bad {s : List UInt8} {n : Nat} (h : readX s = (none, n)) : ∃ r, (partsX s).2 = some r ∧ n = s.length - r.length := by
  unfold readX at h
  split at h
  · cases h
  · rename_i r h2; cases h; exact ⟨r, h2, rfl⟩
theorem parts_join {s t : List UInt8} (h : (partsX s).2 = none) : partsX (s ++ [60, 113, 47, 62] ++ t) = ((partsX s).1 ++ .tags qq :: (partsX t).1, (partsX t).2) := by
  have hp := partX_app t part_q
  rw [List.nil_append] at hp
  rw [List.append_assoc, partsX_append _ h, partsX_some hp]
theorem read_join {s t : List UInt8} {l m : List TkX} {n k : Nat} (h : readX s = (some l, n)) (h2 : readX t = (some m, k)) : readX (s ++ [60, 113, 47, 62] ++ t) = (some (l ++ qq ++ m), 0) := by
  obtain ⟨a1, a2, a3⟩ := read_parts h
  obtain ⟨b1, b2, b3⟩ := read_parts h2
  have hj := parts_join (t := t) a1
  unfold readX
  rw [hj]
  simp only [b1]
  rw [tokX_app, ← a2, ← b2]
theorem read_join_bad {s t : List UInt8} {l : List TkX} {n k : Nat} (h : readX s = (some l, n)) (h2 : readX t = (none, k)) : readX (s ++ [60, 113, 47, 62] ++ t) = (none, s.length + 4 + k) := by
  obtain ⟨a1, a2, a3⟩ := read_parts h
  obtain ⟨r, b1, b2⟩ := read_parts_bad h2
  have hr := partsX_rest t.length (Nat.le_refl _) b1
  have hj := parts_join (t := t) a1
  unfold readX
  rw [hj]
  simp only [b1]
  simp
  omega
theorem upTo_first {c : UInt8} {e : List UInt8} (u : List UInt8) : ∀ {s : List UInt8}, c ∉ s → upTo (c :: e) (s ++ (c :: e ++ u)) = some (s, u)
  | [], _ => by
    rw [List.nil_append, List.cons_append]
    unfold upTo
    rw [if_pos (by simp [List.isPrefixOf_iff_prefix])]
    simp
  | a :: s, h => by
    have h1 : a ≠ c := fun e => h (by simp [e])
    have h2 : c ∉ s := fun e => h (by simp [e])
    rw [List.cons_append]
    unfold upTo
    rw [if_neg (by simp [List.isPrefixOf, Ne.symm h1]), upTo_first u h2]
    rfl
theorem part_comment {c : List UInt8} (h : (45 : UInt8) ∉ c) (u : List UInt8) : partX ([60, 33, 45, 45] ++ c ++ [45, 45, 62] ++ u) = some (.txt [], u) := by
  have e : [60, 33, 45, 45] ++ c ++ [45, 45, 62] ++ u = 60 :: 33 :: 45 :: 45 :: (c ++ (45 :: [45, 62] ++ u)) := by simp
  rw [e, partX_comment]
  unfold eComment
  rw [upTo_first u h]
  rfl
theorem part_instr {c : List UInt8} (h : (63 : UInt8) ∉ c) (u : List UInt8) : partX ([60, 63] ++ c ++ [63, 62] ++ u) = some (.txt [], u) := by
  have e : [60, 63] ++ c ++ [63, 62] ++ u = 60 :: 63 :: (c ++ (63 :: [62] ++ u)) := by simp
  rw [e, partX_instr]
  unfold eInstr
  rw [upTo_first u h]
  rfl
/-- The blanks of the law. -/
def blkX : Nat → List UInt8
  | 0 => [32]
  | 1 => [9]
  | 2 => [10, 13]
  | _ => []
def tailX (b : List UInt8) : List UInt8 := [60, 113] ++ b ++ [47, 62, 60, 114] ++ b ++ [62, 60, 47, 114] ++ b ++ [62]
def tailT : List TkX := [openT [113] [], closeT [113], openT [114] [], closeT [114]]
theorem tag_qb : ∀ k, k < 4 → tagX ([113] ++ blkX k ++ [47, 62]) = some ([openT [113] [], closeT [113]], []) ∧ tagX ([114] ++ blkX k ++ [62]) = some ([openT [114] []], []) ∧ endX ([114] ++ blkX k ++ [62]) = some ([closeT [114]], []) ∧ (nameX ([113] ++ blkX k ++ [47, 62])).1 ≠ [] ∧ (nameX ([114] ++ blkX k ++ [62])).1 ≠ [] := by decide +kernel
theorem parts_tail {k : Nat} (hk : k < 4) : ∃ A B C, partsX (tailX (blkX k)) = ([.tags A, .tags B, .tags C], none) ∧ A ++ B ++ C = tailT := by
  obtain ⟨h1, h2, h3, h4, h5⟩ := tag_qb k hk
  have p1 : partX (60 :: ([113] ++ blkX k ++ [47, 62])) = some (.tags [openT [113] [], closeT [113]], []) := by rw [partX_tag h4, h1]; rfl
  have p2 : partX (60 :: ([114] ++ blkX k ++ [62])) = some (.tags [openT [114] []], []) := by rw [partX_tag h5, h2]; rfl
  have p3 : partX (60 :: 47 :: ([114] ++ blkX k ++ [62])) = some (.tags [closeT [114]], []) := by rw [partX_end, h3]; rfl
  have q2 := partX_app (60 :: 47 :: ([114] ++ blkX k ++ [62])) p2
  have q1 := partX_app (60 :: ([114] ++ blkX k ++ [62]) ++ (60 :: 47 :: ([114] ++ blkX k ++ [62]))) p1
  rw [List.nil_append] at q1 q2
  refine ⟨[openT [113] [], closeT [113]], [openT [114] []], [closeT [114]], ?_, rfl⟩
  have e : tailX (blkX k) = 60 :: ([113] ++ blkX k ++ [47, 62]) ++ (60 :: ([114] ++ blkX k ++ [62]) ++ (60 :: 47 :: ([114] ++ blkX k ++ [62]))) := by simp [tailX]
  rw [e, partsX_some q1, partsX_some q2, partsX_some p3, partsX_nil]
theorem read_silent {s c : List UInt8} {l : List TkX} {n k : Nat} (h : readX s = (some l, n)) (h1 : (45 : UInt8) ∉ c) (h2 : (63 : UInt8) ∉ c) (hk : k < 4) :
    readX ([60, 33, 45, 45] ++ c ++ [45, 45, 62] ++ (s ++ ([60, 63] ++ c ++ [63, 62] ++ tailX (blkX k)))) = (some (l ++ tailT), 0) := by
  obtain ⟨a1, a2, a3⟩ := read_parts h
  obtain ⟨A, B, C, ht, hABC⟩ := parts_tail hk
  unfold readX
  rw [partsX_some (part_comment h1 _), partsX_append _ a1, partsX_some (part_instr h2 _), ht]
  simp only
  have e : tokX [] (PtX.txt [] :: ((partsX s).1 ++ PtX.txt [] :: [.tags A, .tags B, .tags C])) = l ++ tailT := by
    have e2 : ∀ (ps : List PtX) (w : List UInt8), tokX w (ps ++ PtX.txt [] :: [.tags A, .tags B, .tags C]) = tokX w (ps ++ .tags A :: [.tags B, .tags C]) := by
      intro ps
      induction ps with
      | nil => intro w; simp [tokX]
      | cons p ps ih =>
        intro w
        cases p with
        | txt t => simp only [List.cons_append, tokX]; exact ih _
        | tags T => simp only [List.cons_append, tokX]; rw [ih]
    show tokX ([] ++ []) _ = _
    rw [List.append_nil, e2, tokX_app, ← a2, ← hABC]
    simp [tokX, endW]
  rw [e]
end Go.Proofs.YtjoeamlidmmioaaGreatDoor

/-
  LAYER 11 (xml), plain mathematics: how long it is what is written of what was read.
-/
namespace Go.Proofs.YtjoeamlidmmioaaGreatDoor
set_option linter.unusedVariables false
set_option maxRecDepth 100000

theorem escB_le (c : UInt8) : (escB c).length ≤ 6 := by
  unfold escB
  split
  · simp
  · split
    · simp
    · split
      · simp
      · split
        · simp
        · split <;> simp
theorem escX_le (l : List UInt8) : (escX l).length ≤ 6 * l.length := by
  induction l with
  | nil => simp [escX]
  | cons c r ih => rw [escX_cons, List.length_append, List.length_cons]; have := escB_le c; omega
theorem utfX_le (n : Nat) : (utfX n).length ≤ 4 := by
  unfold utfX
  split
  · simp
  · split
    · simp
    · split <;> simp
theorem charX_le {b m : Nat} {d t : List UInt8} (h : charX b m d = some t) : t.length ≤ 4 := by
  unfold charX at h
  split at h
  · cases h
  · obtain ⟨n, _, h2⟩ := Option.bind_eq_some_iff.1 h
    split at h2
    · cases h2; exact utfX_le n
    · cases h2
theorem numbX_le {d t : List UInt8} (h : numbX d = some t) : t.length ≤ 4 := by
  unfold numbX at h
  split at h <;> exact charX_le h
theorem denX_le {s t : List UInt8} (h : denX s = some t) : t.length ≤ 4 := by
  unfold denX at h
  split at h
  · cases h; simp
  split at h
  · cases h; simp
  split at h
  · cases h; simp
  split at h
  · cases h; simp
  split at h
  · cases h; simp
  split at h
  · exact numbX_le h
  · cases h
theorem refX_le {s t r : List UInt8} (h : refX s = some (t, r)) : t.length ≤ 4 := by
  unfold refX at h
  obtain ⟨x, _, h2⟩ := Option.bind_eq_some_iff.1 h
  obtain ⟨t', h3, h4⟩ := Option.map_eq_some_iff.1 h2
  cases h4
  exact denX_le h3
theorem saidX_le : ∀ (n : Nat) {s v : List UInt8}, s.length ≤ n → saidX s = some v → v.length ≤ 4 * s.length
  | 0, s, v, hn, h => by
    obtain rfl : s = [] := List.length_eq_zero_iff.1 (by omega)
    rw [saidX_nil] at h; cases h; simp
  | n + 1, [], v, hn, h => by rw [saidX_nil] at h; cases h; simp
  | n + 1, c :: r, v, hn, h => by
    rw [saidX_cons] at h
    simp only [List.length_cons] at hn ⊢
    split at h
    · obtain ⟨⟨t, r'⟩, h1, h2⟩ := Option.bind_eq_some_iff.1 h
      obtain ⟨u, h3, h4⟩ := Option.map_eq_some_iff.1 h2
      simp only at h3 h4
      cases h4
      have := refX_lt h1
      have := refX_le h1
      have := saidX_le n (by omega) h3
      simp only [List.length_append]
      omega
    · obtain ⟨u, h3, h4⟩ := Option.map_eq_some_iff.1 h
      cases h4
      have := saidX_le n (by omega) h3
      simp only [List.length_cons]
      omega
theorem wAt_len (a : AtX) : (wAt a).length ≤ 4 + a.n.length + 6 * a.v.length := by
  have := escX_le a.v
  unfold wAt
  simp only [List.length_append, List.length_cons, List.length_nil]
  omega
theorem attrX_wl {s : List UInt8} {a : AtX} {r : List UInt8} (h : attrX s = some (a, r)) : (wAt a).length + 24 * r.length ≤ 24 * s.length := by
  unfold attrX at h
  split at h
  · cases h
  have h0 := nameX_len s
  have h1 := dropW_len spcX (nameX s).2
  split at h
  · rename_i r2 e2
    rw [e2] at h1
    have h3 := dropW_len spcX r2
    split at h
    · rename_i q r4 e4
      rw [e4] at h3
      split at h
      · obtain ⟨⟨x, y⟩, h4, h5⟩ := Option.bind_eq_some_iff.1 h
        simp only at h5
        split at h5
        · cases h5
        · obtain ⟨v, h7, h6⟩ := Option.map_eq_some_iff.1 h5
          cases h6
          have h8 := (upTo_lt h4).1
          have h9 := saidX_le _ (Nat.le_refl _) h7
          have h10 := wAt_len ⟨(nameX s).1, v⟩
          simp only [List.length_cons, List.length_nil] at h8 h1 h3 h9 h10 ⊢
          omega
      · cases h
    · cases h
  · cases h
theorem attrsX_wl : ∀ (n : Nat) {s : List UInt8} {l m : List AtX} {b : Bool} {r : List UInt8}, s.length ≤ n → attrsX s l = some (m, b, r) → (m.flatMap wAt).length + 24 * r.length + 24 ≤ 24 * s.length + (l.flatMap wAt).length := by
  intro n
  induction n with
  | zero =>
    intro s l m b r hn h
    have : s = [] := List.length_eq_zero_iff.1 (by omega)
    subst this
    rw [attrsX_eq] at h
    simp [attrsG, attrX, nameX] at h
  | succ n ih =>
    intro s l m b r hn h
    rw [attrsX_eq] at h
    unfold attrsG at h
    have h1 := dropW_len spcX s
    split at h
    · rename_i q e
      cases h
      rw [e] at h1; simp only [List.length_cons] at h1; omega
    · rename_i q e
      cases h
      rw [e] at h1; simp only [List.length_cons] at h1; omega
    · obtain ⟨⟨a, r'⟩, h2, h3⟩ := Option.bind_eq_some_iff.1 h
      have h4 := attrX_lt h2
      have h5 := attrX_wl h2
      simp only at h3
      split at h3
      · have h6 := ih (by omega) h3
        rw [List.flatMap_append, List.length_append] at h6
        simp only [List.flatMap_cons, List.flatMap_nil, List.append_nil] at h6
        omega
      · cases h3
theorem wTk_open (n : List UInt8) (l : List AtX) : (wTk (openT n l)).length = 2 + n.length + (l.flatMap wAt).length := by
  simp [wTk, openT]; omega
theorem wTk_close (n : List UInt8) : (wTk (closeT n)).length = 3 + n.length := by
  simp [wTk, closeT]; omega
theorem write_one (t : TkX) : writeX [t] = wTk t := by simp [writeX]
theorem write_cons (t : TkX) (l : List TkX) : writeX (t :: l) = wTk t ++ writeX l := by simp [writeX]
theorem write_append (l m : List TkX) : writeX (l ++ m) = writeX l ++ writeX m := by simp [writeX]
theorem endX_wl {s : List UInt8} {l : List TkX} {r : List UInt8} (h : endX s = some (l, r)) : (writeX l).length + 24 * r.length ≤ 24 * s.length := by
  unfold endX at h
  split at h
  · cases h
  · rename_i hn
    have h0 := nameX_len s
    have h1 := dropW_len spcX (nameX s).2
    split at h
    · rename_i r' e
      cases h
      rw [write_one, wTk_close]
      rw [e] at h1; simp only [List.length_cons] at h1; omega
    · cases h
theorem tagX_wl {s : List UInt8} {l : List TkX} {r : List UInt8} (h : tagX s = some (l, r)) : (writeX l).length + 24 * r.length ≤ 24 * s.length := by
  unfold tagX at h
  split at h
  · cases h
  · rename_i hn
    obtain ⟨⟨m, b, r'⟩, h1, h2⟩ := Option.map_eq_some_iff.1 h
    simp only [Prod.mk.injEq] at h2
    obtain ⟨rfl, rfl⟩ := h2
    have h3 := attrsX_wl _ (Nat.le_refl _) h1
    have h0 := nameX_len s
    have h4 : (nameX s).1.length ≠ 0 := by simpa using hn
    rw [write_cons, List.length_append, wTk_open]
    simp only [List.flatMap_nil, List.length_nil] at h3
    split
    · rw [write_one, wTk_close]; omega
    · simp only [writeX, List.flatMap_nil, List.length_nil]; omega
def ptW : PtX → Nat
  | .txt t => 6 * t.length
  | .tags l => (writeX l).length
theorem partX_wl {s : List UInt8} {p : PtX} {r : List UInt8} (h : partX s = some (p, r)) : ptW p + 24 * r.length ≤ 24 * s.length := by
  have hend : ∀ y, y.length ≤ s.length → (endX y).map (fun x => (PtX.tags x.1, x.2)) = some (p, r) → ptW p + 24 * r.length ≤ 24 * s.length := by
    intro y hl hy
    obtain ⟨⟨L, r'⟩, hx, e⟩ := Option.map_eq_some_iff.1 hy
    cases e
    have := endX_wl hx
    show (writeX L).length + _ ≤ _
    simp only
    omega
  have htag : ∀ y, y.length ≤ s.length → (tagX y).map (fun x => (PtX.tags x.1, x.2)) = some (p, r) → ptW p + 24 * r.length ≤ 24 * s.length := by
    intro y hl hy
    obtain ⟨⟨L, r'⟩, hx, e⟩ := Option.map_eq_some_iff.1 hy
    cases e
    have := tagX_wl hx
    show (writeX L).length + _ ≤ _
    simp only
    omega
  have hup : ∀ (e y : List UInt8) (f : List UInt8 × List UInt8 → List UInt8), y.length ≤ s.length → (∀ x, (f x).length ≤ x.1.length) → (upTo e y).map (fun x => (PtX.txt (f x), x.2)) = some (p, r) → ptW p + 24 * r.length ≤ 24 * s.length := by
    intro e y f hl hf hy
    obtain ⟨⟨a, b⟩, hx, e⟩ := Option.map_eq_some_iff.1 hy
    cases e
    have h1 := (upTo_lt hx).1
    have h2 := hf (a, b)
    show 6 * (f (a, b)).length + _ ≤ _
    simp only at h2 ⊢
    omega
  unfold partX at h
  split at h
  · rename_i y hy; have := (past_lt hy).2; exact hup eComment y (fun _ => []) (by omega) (fun x => by simp) h
  split at h
  · rename_i y hy; have := (past_lt hy).2; exact hup eInstr y (fun _ => []) (by omega) (fun x => by simp) h
  split at h
  · rename_i y hy
    have h1 := (past_lt hy).2
    obtain ⟨⟨a, b⟩, hx, e⟩ := Option.bind_eq_some_iff.1 h
    split at e
    · cases e
    · cases e
      have h2 := (upTo_lt hx).1
      show 0 + _ ≤ _
      simp only
      omega
  split at h
  · rename_i y hy; have := (past_lt hy).2; exact hup eData y (fun x => x.1) (by omega) (fun x => by simp) h
  split at h
  · rename_i y hy; have := (past_lt hy).2; exact hend y (by omega) h
  split at h
  · rename_i y hy; have := (past_lt hy).2; exact htag y (by omega) h
  split at h
  · rename_i y hy
    have h1 := (past_lt hy).2
    obtain ⟨⟨t, r'⟩, hx, e⟩ := Option.map_eq_some_iff.1 h
    cases e
    have h2 := refX_lt hx
    have h3 := refX_le hx
    show 6 * t.length + _ ≤ _
    simp only [List.length_cons, List.length_nil] at h1 ⊢
    omega
  split at h
  · cases h
  · cases h
    show 6 * 1 + _ ≤ _
    simp only [List.length_cons]
    omega
theorem endW_wl (w : List UInt8) : (writeX (endW w)).length ≤ 6 * w.length := by
  unfold endW
  split
  · simp [writeX]
  · rw [write_one]
    have := escX_le w
    simpa [wTk, wordsT] using this
theorem parts_wl : ∀ (n : Nat) {s : List UInt8}, s.length ≤ n → ∀ w, (writeX (tokX w (partsX s).1)).length ≤ 6 * w.length + 24 * s.length
  | 0, s, h, w => by
    obtain rfl : s = [] := List.length_eq_zero_iff.1 (by omega)
    rw [partsX_nil]
    simp only [tokX]
    have := endW_wl w
    omega
  | n + 1, s, h, w => by
    have := endW_wl w
    rcases hp : partX s with _ | ⟨p, r⟩
    · by_cases h0 : s = []
      · subst h0; rw [partsX_nil]; simp only [tokX]; omega
      · rw [partsX_bad h0 hp]; simp only [tokX]; omega
    · have hlt := partX_lt hp
      have hwl := partX_wl hp
      rw [partsX_some hp]
      cases p with
      | txt t =>
        simp only [tokX]
        have h1 := parts_wl n (s := r) (by omega) (w ++ t)
        rw [List.length_append] at h1
        have h2 : ptW (.txt t) = 6 * t.length := rfl
        omega
      | tags T =>
        simp only [tokX]
        rw [write_append, write_append, List.length_append, List.length_append]
        have h1 := parts_wl n (s := r) (by omega) []
        have h2 : ptW (.tags T) = (writeX T).length := rfl
        simp only [List.length_nil] at h1
        omega
theorem read_wl {s : List UInt8} {L : List TkX} {n : Nat} (h : readX s = (some L, n)) : (writeX L).length ≤ 24 * s.length := by
  obtain ⟨_, rfl, _⟩ := read_parts h
  have := parts_wl s.length (Nat.le_refl _) []
  simpa using this
end Go.Proofs.YtjoeamlidmmioaaGreatDoor

