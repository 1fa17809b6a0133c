/-
  LAYER 11 (xml), plain mathematics: what stands behind a part changes nothing.
-/
import Derived.Test.YtaefdknaidbplaaGreatDoorXmMath
namespace Go.Proofs.YtaefdknaidbplaaGreatDoor
set_option linter.unusedVariables false
set_option maxRecDepth 100000

/-! ### what stands behind changes nothing -/
theorem pre_len {p s u : List UInt8} (h : p.length ≤ s.length) : p.isPrefixOf (s ++ u) = p.isPrefixOf s := by
  rw [Bool.eq_iff_iff, List.isPrefixOf_iff_prefix, List.isPrefixOf_iff_prefix]
  exact ⟨fun hh => List.prefix_of_prefix_length_le hh (List.prefix_append s u) h, fun hh => hh.trans (List.prefix_append s u)⟩
theorem upTo_app {e : List UInt8} (u : List UInt8) : ∀ {s a b : List UInt8}, upTo e s = some (a, b) → upTo e (s ++ u) = some (a, b ++ u)
  | [], _, _, h => by simp [upTo] at h
  | c :: r, a, b, h => by
    have hl := (upTo_lt h).1
    have he : e.length ≤ (c :: r).length := by omega
    unfold upTo at h
    show upTo e (c :: (r ++ u)) = _
    unfold upTo
    rw [← List.cons_append, pre_len he]
    by_cases hp : e.isPrefixOf (c :: r) = true
    · rw [if_pos hp] at h ⊢
      cases h
      rw [List.drop_append_of_le_length he]
    · rw [if_neg hp] at h ⊢
      obtain ⟨⟨a', b'⟩, h1, h2⟩ := Option.map_eq_some_iff.1 h
      simp only [Prod.mk.injEq] at h2
      obtain ⟨rfl, rfl⟩ := h2
      rw [upTo_app u h1]; rfl
theorem dropW_app {p : UInt8 → Bool} {s : List UInt8} (u : List UInt8) (h : s.dropWhile p ≠ []) : (s ++ u).dropWhile p = s.dropWhile p ++ u := by
  rw [List.dropWhile_append, if_neg]
  simpa using h
theorem takeW_app {p : UInt8 → Bool} : ∀ {s : List UInt8} (u : List UInt8), s.dropWhile p ≠ [] → (s ++ u).takeWhile p = s.takeWhile p
  | [], u, h => absurd rfl h
  | c :: r, u, h => by
    by_cases hc : p c = true
    · rw [List.dropWhile_cons_of_pos hc] at h
      rw [List.cons_append, List.takeWhile_cons_of_pos hc, List.takeWhile_cons_of_pos hc, takeW_app u h]
    · rw [List.cons_append, List.takeWhile_cons_of_neg hc, List.takeWhile_cons_of_neg hc]
theorem nameX_app {s : List UInt8} (u : List UInt8) (h : (nameX s).2 ≠ []) : nameX (s ++ u) = ((nameX s).1, (nameX s).2 ++ u) := by
  cases s with
  | nil => exact absurd rfl h
  | cons c r =>
    simp only [nameX, List.cons_append] at h ⊢
    by_cases hc : begX c
    · simp only [hc, if_true] at h ⊢
      rw [takeW_app u h, dropW_app u h]
    · simp [hc]
theorem refX_app {s t r : List UInt8} (u : List UInt8) (h : refX s = some (t, r)) : refX (s ++ u) = some (t, r ++ u) := by
  unfold refX at h ⊢
  obtain ⟨⟨a, b⟩, h1, h2⟩ := Option.bind_eq_some_iff.1 h
  obtain ⟨t', h3, h4⟩ := Option.map_eq_some_iff.1 h2
  cases h4
  rw [upTo_app u h1, Option.bind_some]
  simp only at h3 ⊢
  rw [h3]; rfl
theorem attrX_app {s : List UInt8} {a : AtX} {r : List UInt8} (u : List UInt8) (h : attrX s = some (a, r)) : attrX (s ++ u) = some (a, r ++ u) := by
  unfold attrX at h ⊢
  by_cases hn : (nameX s).1 = []
  · rw [if_pos hn] at h; cases h
  rw [if_neg hn] at h
  split at h
  · rename_i r2 e2
    have hne : (nameX s).2.dropWhile spcX ≠ [] := by rw [e2]; simp
    have hn2 : (nameX s).2 ≠ [] := fun e => by rw [e] at hne; exact hne rfl
    split at h
    · rename_i q r4 e4
      have hne4 : r2.dropWhile spcX ≠ [] := by rw [e4]; simp
      rw [nameX_app u hn2]
      simp only
      rw [if_neg hn, dropW_app u hne, e2, List.cons_append]
      simp only
      rw [dropW_app u hne4, e4, List.cons_append]
      simp only
      split at h
      · rename_i hq
        rw [if_pos hq]
        obtain ⟨⟨x, y⟩, h4, h5⟩ := Option.bind_eq_some_iff.1 h
        rw [upTo_app u h4, Option.bind_some]
        simp only at h5 ⊢
        split at h5
        · cases h5
        · rename_i h6
          rw [if_neg h6]
          obtain ⟨v, hv, h7⟩ := Option.map_eq_some_iff.1 h5
          cases h7
          rw [hv]; rfl
      · cases h
    · cases h
  · cases h
theorem attrsX_app : ∀ (n : Nat) {s : List UInt8} {l m : List AtX} {b : Bool} {r : List UInt8} (u : List UInt8), s.length ≤ n → attrsX s l = some (m, b, r) → attrsX (s ++ u) l = some (m, b, r ++ u) := by
  intro n
  induction n with
  | zero =>
    intro s l m b r u hn h
    have := attrsX_lt s.length (Nat.le_refl _) h
    omega
  | succ n ih =>
    intro s l m b r u hn h
    rw [attrsX_eq] at h ⊢
    have h1 := dropW_len spcX s
    unfold attrsG at h ⊢
    have hne : s.dropWhile spcX ≠ [] := by
      intro e
      rw [e] at h
      simp [attrX, nameX] at h
    rw [dropW_app u hne]
    split at h
    · rename_i q e; rw [e]; cases h; rfl
    · rename_i q e; rw [e]; cases h; rfl
    · rename_i na nb
      obtain ⟨⟨a, r'⟩, h2, h3⟩ := Option.bind_eq_some_iff.1 h
      have h4 := attrX_lt h2
      have h5 := attrX_app u h2
      simp only at h3
      split at h3
      · rename_i hc
        have h6 := ih u (by omega) h3
        cases hd : s.dropWhile spcX with
        | nil => exact absurd hd hne
        | cons x xs =>
          rw [hd] at na nb h2 h5 h1 hc
          have hnc : ∀ ys, x :: xs ≠ 47 :: 62 :: ys := nb
          have hx62 : x ≠ 62 := fun e => na xs (by rw [e])
          have key : (match x :: (xs ++ u) with
            | 62 :: r => some (l, false, r)
            | 47 :: 62 :: r => some (l, true, r)
            | r => (attrX r).bind fun x => if r.length < (s ++ u).length ∧ hasX l x.1.n = false then attrsX x.2 (l ++ [x.1]) else none) = (attrX (x :: (xs ++ u))).bind fun y => if (x :: (xs ++ u)).length < (s ++ u).length ∧ hasX l y.1.n = false then attrsX y.2 (l ++ [y.1]) else none := by
            split
            · rename_i r e
              exact absurd (List.cons.inj e).1 hx62
            · rename_i r e
              obtain ⟨rfl, e2⟩ := List.cons.inj e
              -- the name of an attribute does not begin with /
              exfalso
              unfold attrX at h2
              rw [if_pos (by rfl)] at h2
              cases h2
            · rfl
          rw [List.cons_append]
          refine Eq.trans key ?_
          rw [← List.cons_append, h5]
          simp only [Option.bind_some]
          rw [if_pos ⟨by simp at hc ⊢; omega, hc.2⟩]
          exact h6
      · cases h3
theorem tagX_app {s : List UInt8} {l : List TkX} {r : List UInt8} (u : List UInt8) (h : tagX s = some (l, r)) : tagX (s ++ u) = some (l, r ++ u) := by
  unfold tagX at h ⊢
  split at h
  · cases h
  · rename_i hn
    obtain ⟨⟨m, b, r'⟩, h1, h2⟩ := Option.map_eq_some_iff.1 h
    have hne : (nameX s).2 ≠ [] := by
      intro e; rw [e] at h1
      have := attrsX_lt _ (Nat.le_refl _) h1
      simp at this
    rw [nameX_app u hne]
    simp only
    rw [if_neg hn, attrsX_app _ u (Nat.le_refl _) h1]
    cases h2; rfl
theorem endX_app {s : List UInt8} {l : List TkX} {r : List UInt8} (u : List UInt8) (h : endX s = some (l, r)) : endX (s ++ u) = some (l, r ++ u) := by
  unfold endX at h ⊢
  split at h
  · cases h
  · rename_i hn
    split at h
    · rename_i r' e
      have hd : (nameX s).2.dropWhile spcX ≠ [] := by rw [e]; simp
      have hne : (nameX s).2 ≠ [] := fun e => by rw [e] at hd; exact hd rfl
      rw [nameX_app u hne]
      simp only
      rw [if_neg hn, dropW_app u hd, e]
      cases h; rfl
    · cases h

/-! ### the kinds of parts -/
theorem partX_comment (y : List UInt8) : partX (60 :: 33 :: 45 :: 45 :: y) = (upTo eComment y).map fun x => (.txt [], x.2) := by
  simp [partX, past, sComment]
theorem partX_instr (y : List UInt8) : partX (60 :: 63 :: y) = (upTo eInstr y).map fun x => (.txt [], x.2) := by
  simp [partX, past, sComment, sInstr]
theorem partX_doc (y : List UInt8) : partX (60 :: 33 :: 68 :: 79 :: 67 :: 84 :: 89 :: 80 :: 69 :: y) = (upTo [62] y).bind fun x => if (91 : UInt8) ∈ x.1 ∨ (60 : UInt8) ∈ x.1 then none else some (.txt [], x.2) := by
  simp [partX, past, sComment, sInstr, sDoc]
theorem partX_data (y : List UInt8) : partX (60 :: 33 :: 91 :: 67 :: 68 :: 65 :: 84 :: 65 :: 91 :: y) = (upTo eData y).map fun x => (.txt x.1, x.2) := by
  simp [partX, past, sComment, sInstr, sDoc, sData]
theorem partX_end (y : List UInt8) : partX (60 :: 47 :: y) = (endX y).map fun x => (.tags x.1, x.2) := by
  simp [partX, past, sComment, sInstr, sDoc, sData, sEnd]
theorem nameX_head {y : List UInt8} (h : (nameX y).1 ≠ []) : ∃ c r, y = c :: r ∧ begX c = true := by
  cases y with
  | nil => exact absurd rfl h
  | cons c r =>
    refine ⟨c, r, rfl, ?_⟩
    unfold nameX at h
    by_cases hc : begX c = true
    · exact hc
    · simp [hc] at h
theorem begX_not {c : UInt8} (h : begX c = true) : c ≠ 33 ∧ c ≠ 63 ∧ c ≠ 47 := by
  refine ⟨?_, ?_, ?_⟩ <;> (rintro rfl; exact absurd h (by decide))
theorem partX_tag {y : List UInt8} (h : (nameX y).1 ≠ []) : partX (60 :: y) = (tagX y).map fun x => (.tags x.1, x.2) := by
  obtain ⟨c, r, rfl, hc⟩ := nameX_head h
  obtain ⟨h1, h2, h3⟩ := begX_not hc
  simp [partX, past, sComment, sInstr, sDoc, sData, sEnd, Ne.symm h1, Ne.symm h2, Ne.symm h3]
theorem partX_ref (y : List UInt8) : partX (38 :: y) = (refX y).map fun x => (.txt x.1, x.2) := by
  simp [partX, past, sComment, sInstr, sDoc, sData, sEnd]
theorem partX_byte {c : UInt8} (h1 : c ≠ 60) (h2 : c ≠ 38) (y : List UInt8) : partX (c :: y) = some (.txt [c], y) := by
  simp [partX, past, sComment, sInstr, sDoc, sData, sEnd, Ne.symm h1, Ne.symm h2]
theorem partX_app {s : List UInt8} {p : PtX} {r : List UInt8} (u : List UInt8) (h : partX s = some (p, r)) : partX (s ++ u) = some (p, r ++ u) := by
  have hm : ∀ {α : Type} {o o' : Option (α × List UInt8)} {F : α × List UInt8 → PtX}, o.map (fun x => (F x, x.2)) = some (p, r) → (∀ a b, o = some (a, b) → o' = some (a, b ++ u)) → (∀ a b c, F (a, b) = F (a, c)) → o'.map (fun x => (F x, x.2)) = some (p, r ++ u) := by
    intro α o o' F h1 h2 h5
    obtain ⟨⟨a, b⟩, h3, h4⟩ := Option.map_eq_some_iff.1 h1
    simp only [Prod.mk.injEq] at h4
    obtain ⟨rfl, rfl⟩ := h4
    rw [h2 a b h3]
    simp only [Option.map_some, Option.some.injEq, Prod.mk.injEq, and_true]
    exact h5 _ _ _
  have h' := h
  unfold partX at h
  split at h
  · rename_i q e
    rw [(past_lt e).1]
    show partX (60 :: 33 :: 45 :: 45 :: (q ++ u)) = _
    rw [partX_comment]
    exact hm h (fun a b hh => upTo_app u hh) (fun _ _ _ => rfl)
  split at h
  · rename_i q e
    rw [(past_lt e).1]
    show partX (60 :: 63 :: (q ++ u)) = _
    rw [partX_instr]
    exact hm h (fun a b hh => upTo_app u hh) (fun _ _ _ => rfl)
  split at h
  · rename_i q e
    rw [(past_lt e).1]
    show partX (60 :: 33 :: 68 :: 79 :: 67 :: 84 :: 89 :: 80 :: 69 :: (q ++ u)) = _
    rw [partX_doc]
    obtain ⟨⟨a, b⟩, h3, h4⟩ := Option.bind_eq_some_iff.1 h
    simp only at h4
    split at h4
    · cases h4
    · rename_i h5
      cases h4
      rw [upTo_app u h3, Option.bind_some]
      simp only
      rw [if_neg h5]
  split at h
  · rename_i q e
    rw [(past_lt e).1]
    show partX (60 :: 33 :: 91 :: 67 :: 68 :: 65 :: 84 :: 65 :: 91 :: (q ++ u)) = _
    rw [partX_data]
    exact hm h (fun a b hh => upTo_app u hh) (fun _ _ _ => rfl)
  split at h
  · rename_i q e
    rw [(past_lt e).1]
    show partX (60 :: 47 :: (q ++ u)) = _
    rw [partX_end]
    exact hm h (fun a b hh => endX_app u hh) (fun _ _ _ => rfl)
  split at h
  · rename_i q e
    have he := (past_lt e).1
    subst he
    have hn : (nameX q).1 ≠ [] := by
      intro e; unfold tagX at h; rw [if_pos e] at h; cases h
    show partX (60 :: (q ++ u)) = _
    have hn2 : (nameX (q ++ u)).1 ≠ [] := by
      obtain ⟨c, t, rfl, hc⟩ := nameX_head hn
      simp [nameX, hc]
    rw [partX_tag hn2]
    exact hm h (fun a b hh => tagX_app u hh) (fun _ _ _ => rfl)
  split at h
  · rename_i q e
    rw [(past_lt e).1]
    show partX (38 :: (q ++ u)) = _
    rw [partX_ref]
    exact hm h (fun a b hh => refX_app u hh) (fun _ _ _ => rfl)
  · split at h
    · cases h
    · rename_i c q _ _ _ _ _ h60 h38
      cases h
      have a1 : c ≠ 60 := by
        rintro rfl
        exact absurd h60 (by simp [past])
      have a2 : c ≠ 38 := by
        rintro rfl
        exact absurd h38 (by simp [past])
      rw [List.cons_append, partX_byte a1 a2]
theorem partsX_app : ∀ (n : Nat) {s : List UInt8} (u : List UInt8), s.length ≤ n → (partsX s).2 = none → partsX (s ++ u) = ((partsX s).1 ++ (partsX u).1, (partsX u).2) := by
  intro n
  induction n with
  | zero =>
    intro s u hn h
    have : s = [] := List.length_eq_zero_iff.1 (by omega)
    subst this
    rfl
  | succ n ih =>
    intro s u hn h
    cases hp : partX s with
    | none =>
      by_cases hs : s = []
      · subst hs; rfl
      · rw [partsX_bad hs hp] at h; cases h
    | some x =>
      obtain ⟨p, r⟩ := x
      have hl := partX_lt hp
      rw [partsX_some hp] at h ⊢
      rw [partsX_some (partX_app u hp), ih u (by omega) h]
      rfl
theorem partsX_append {s : List UInt8} (u : List UInt8) (h : (partsX s).2 = none) : partsX (s ++ u) = ((partsX s).1 ++ (partsX u).1, (partsX u).2) := partsX_app _ u (Nat.le_refl _) h
theorem tokX_app (ps qs : List PtX) : ∀ (w : List UInt8), ∀ l : List TkX, tokX w (ps ++ .tags l :: qs) = tokX w ps ++ l ++ tokX [] qs := by
  induction ps with
  | nil => intro w l; rfl
  | cons p ps ih =>
    intro w l
    cases p with
    | txt t => exact ih (w ++ t) l
    | tags m =>
      show endW w ++ m ++ tokX [] (ps ++ .tags l :: qs) = endW w ++ m ++ tokX [] ps ++ l ++ tokX [] qs
      rw [ih]; simp
theorem partsX_rest : ∀ (n : Nat) {s r : List UInt8}, s.length ≤ n → (partsX s).2 = some r → r.length ≤ s.length := by
  intro n
  induction n with
  | zero =>
    intro s r hn h
    have : s = [] := List.length_eq_zero_iff.1 (by omega)
    subst this
    cases h
  | succ n ih =>
    intro s r hn h
    cases hp : partX s with
    | none =>
      by_cases hs : s = []
      · subst hs; cases h
      · rw [partsX_bad hs hp] at h; cases h; exact Nat.le_refl _
    | some x =>
      obtain ⟨p, q⟩ := x
      have hl := partX_lt hp
      rw [partsX_some hp] at h
      have := ih (by omega) h
      omega
end Go.Proofs.YtaefdknaidbplaaGreatDoor
