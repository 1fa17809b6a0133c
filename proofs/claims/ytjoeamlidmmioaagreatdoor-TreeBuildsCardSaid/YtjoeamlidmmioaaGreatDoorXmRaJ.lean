import Derived.Test.YtjoeamlidmmioaaGreatDoorXmR9J
/-
  LAYER 11 (xml), plain mathematics: a text up to the next tag, and its parts; a part's rest is the end of the text.
-/
namespace Go.Proofs.YtjoeamlidmmioaaGreatDoor
open Go.RowKit
set_option linter.unusedVariables false
set_option maxRecDepth 100000

theorem sixX_60 : sixX 60 = none := by decide
theorem fold_60 (b : Nat) : ∀ (l : List UInt8) (v : Option Nat), (60 : UInt8) ∈ l → l.foldl (digitX b) v = none
  | c :: r, v, h => by
    rw [List.foldl_cons]
    rcases List.mem_cons.1 h with e | e
    · have : digitX b v c = none := by rw [← e]; cases v <;> simp [digitX, sixX_60]
      rw [this, digit_none]
    · exact fold_60 b r _ e
theorem charX_60 (b m : Nat) {l : List UInt8} (h : (60 : UInt8) ∈ l) : charX b m l = none := by
  unfold charX digsX
  split
  · rfl
  · split
    · rfl
    · rw [fold_60 b l _ h]; rfl
theorem denX_60 {x : List UInt8} (h : (60 : UInt8) ∈ x) : denX x = none := by
  rw [denX_not (fun j hj e => by
    rw [e] at h
    rcases nmF_cases hj with rfl | rfl | rfl | rfl | rfl <;> revert h <;> decide)]
  unfold denT
  split
  · rename_i d
    have hd : (60 : UInt8) ∈ d := by simpa using h
    unfold numbX
    split
    · rename_i h'
      exact charX_60 _ _ (by simpa using hd)
    · exact charX_60 _ _ hd
  · rfl
theorem upTo_past {c : UInt8} : ∀ {r : List UInt8} (d : List UInt8), upTo [c] r = none → upTo [c] (r ++ d) = (upTo [c] d).map fun z => (r ++ z.1, z.2)
  | [], d, _ => by rw [List.nil_append]; cases upTo [c] d <;> simp
  | a :: r, d, h => by
    unfold upTo at h
    split at h
    · cases h
    · rename_i hp
      have hr : upTo [c] r = none := by
        cases hu : upTo [c] r with
        | none => rfl
        | some z => rw [hu] at h; cases h
      rw [List.cons_append]
      rw [show upTo [c] (a :: (r ++ d)) = if ([c] : List UInt8).isPrefixOf (a :: (r ++ d)) then some ([], (a :: (r ++ d)).drop 1) else (upTo [c] (r ++ d)).map fun x => (a :: x.1, x.2) from by rw [upTo]; rfl]
      have hp2 : ¬ ([c] : List UInt8).isPrefixOf (a :: (r ++ d)) = true := by
        simpa [List.isPrefixOf] using hp
      rw [if_neg hp2, upTo_past d hr]
      cases upTo [c] d <;> rfl
/-- Behind a text stands nothing, or a tag. -/
def Tagd (d : List UInt8) : Prop := d = [] ∨ ∃ u, d = 60 :: u
theorem refX_none {r d : List UInt8} (h : refX r = none) (hd : Tagd d) : refX (r ++ d) = none := by
  rcases hd with rfl | ⟨u, rfl⟩
  · rw [List.append_nil]; exact h
  · unfold refX at h ⊢
    cases hu : upTo [59] r with
    | some x =>
      obtain ⟨x, q⟩ := x
      rw [hu] at h
      rw [upTo_app (60 :: u) hu]
      simp only [Option.bind_some] at h ⊢
      cases hx : denX x with
      | none => rfl
      | some t => rw [hx] at h; cases h
    | none =>
      rw [upTo_past _ hu]
      have e : upTo [59] (60 :: u) = (upTo [59] u).map fun z => (60 :: z.1, z.2) := by rw [upTo]; rfl
      rw [e]
      cases upTo [59] u with
      | none => rfl
      | some z =>
        simp only [Option.map_some, Option.bind_some]
        rw [denX_60 (by simp)]
        rfl
theorem parts_said (d : List UInt8) (hd : Tagd d) : ∀ (n : Nat) (l : List UInt8), l.length ≤ n → (60 : UInt8) ∉ l →
    (∀ bad, (saidE l).2 = some bad → (partsX (l ++ d)).2 = some (bad ++ d)) ∧ ((saidE l).2 = none → (partsX (l ++ d)).2 = (partsX d).2 ∧ ∀ w, tokX w (partsX (l ++ d)).1 = tokX (w ++ (saidE l).1) (partsX d).1)
  | _, [], _, _ => ⟨fun bad h => (by rw [saidE_nil] at h; cases h), fun _ => ⟨rfl, fun w => by rw [saidE_nil]; simp⟩⟩
  | 0, c :: r, h, _ => by simp at h
  | n + 1, c :: r, h, h60 => by
    simp only [List.length_cons] at h
    have hc60 : c ≠ 60 := fun e => h60 (by rw [e]; exact List.mem_cons_self ..)
    have hr60 : (60 : UInt8) ∉ r := fun k => h60 (List.mem_cons_of_mem c k)
    rw [List.cons_append]
    by_cases hc : c = 38
    · subst hc
      cases hr : refX r with
      | none =>
        rw [saidE_bad hr]
        have hp : partX (38 :: (r ++ d)) = none := by rw [partX_ref, refX_none hr hd]; rfl
        refine ⟨fun bad hb => ?_, fun hb => by cases hb⟩
        cases hb
        rw [partsX_bad (by simp) hp]
        rfl
      | some x =>
        obtain ⟨t, q⟩ := x
        have hl := refX_lt hr
        have hq60 : (60 : UInt8) ∉ q := fun k => hr60 (by rw [← List.take_append_drop (r.length - q.length) r, refX_drop hr]; exact List.mem_append_right _ k)
        rw [saidE_ref hr]
        have hp : partX (38 :: (r ++ d)) = some (.txt t, q ++ d) := by rw [partX_ref, refX_app d hr]; rfl
        rw [partsX_some hp]
        obtain ⟨i1, i2⟩ := parts_said d hd n q (by omega) hq60
        refine ⟨fun bad hb => i1 bad hb, fun hb => ⟨(i2 hb).1, fun w => ?_⟩⟩
        show tokX (w ++ t) (partsX (q ++ d)).1 = _
        rw [(i2 hb).2]
        simp
    · rw [saidE_chr hc]
      have hp : partX (c :: (r ++ d)) = some (.txt [c], r ++ d) := partX_byte hc60 hc _
      rw [partsX_some hp]
      obtain ⟨i1, i2⟩ := parts_said d hd n r (by omega) hr60
      refine ⟨fun bad hb => i1 bad hb, fun hb => ⟨(i2 hb).1, fun w => ?_⟩⟩
      show tokX (w ++ [c]) (partsX (r ++ d)).1 = _
      rw [(i2 hb).2]
      simp
theorem nameX_suffix (s : List UInt8) : (nameX s).2 <:+ s := ⟨(nameX s).1, nameX_eq s⟩
theorem endX_suffix {s r : List UInt8} {l : List TkX} (h : endX s = some (l, r)) : r <:+ s := by
  unfold endX at h
  split at h
  · cases h
  · have h1 := List.dropWhile_suffix spcX (l := (nameX s).2)
    split at h
    · rename_i r' e
      cases h
      rw [e] at h1
      exact (List.suffix_cons _ _).trans (h1.trans (nameX_suffix s))
    · cases h
theorem attrsX_suffix : ∀ (n : Nat) {s : List UInt8} {l m : List AtX} {b : Bool} {r : List UInt8}, s.length ≤ n → attrsX s l = some (m, b, r) → r <:+ s := by
  intro n
  induction n with
  | zero =>
    intro s l m b r hn h
    have : s = [] := List.length_eq_zero_iff.1 (by omega)
    subst this
    rw [attrsX_eq] at h
    simp [attrsG, attrX, nameX] at h
  | succ n ih =>
    intro s l m b r hn h
    rw [attrsX_eq] at h
    unfold attrsG at h
    have h1 := List.dropWhile_suffix spcX (l := s)
    split at h
    · rename_i q e
      cases h
      rw [e] at h1
      exact (List.suffix_cons _ _).trans h1
    · rename_i q e
      cases h
      rw [e] at h1
      exact (List.suffix_cons _ _).trans ((List.suffix_cons _ _).trans h1)
    · obtain ⟨⟨a, r'⟩, h2, h3⟩ := Option.bind_eq_some_iff.1 h
      have h4 := attrX_lt h2
      have h5 : r' <:+ s.dropWhile spcX := attrX_suffix h2
      have h6 := dropW_len spcX s
      simp only at h3
      split at h3
      · exact (ih (by omega) h3).trans (h5.trans h1)
      · cases h3
theorem tagX_suffix {s r : List UInt8} {l : List TkX} (h : tagX s = some (l, r)) : r <:+ s := by
  unfold tagX at h
  split at h
  · cases h
  · obtain ⟨⟨m, b, r'⟩, h1, h2⟩ := Option.map_eq_some_iff.1 h
    simp only [Prod.mk.injEq] at h2
    obtain ⟨_, rfl⟩ := h2
    exact (attrsX_suffix _ (Nat.le_refl _) h1).trans (nameX_suffix s)
theorem past_suffix {p s r : List UInt8} (h : past p s = some r) : r <:+ s := ⟨p, (past_lt h).1.symm⟩
theorem upTo_suffix {e s a b : List UInt8} (h : upTo e s = some (a, b)) : b <:+ s := ⟨a ++ e, (upTo_lt h).2.symm⟩
theorem partX_suffix {s : List UInt8} {p : PtX} {r : List UInt8} (h : partX s = some (p, r)) : r <:+ s := by
  have hend : ∀ y, y <:+ s → (endX y).map (fun x => (PtX.tags x.1, x.2)) = some (p, r) → r <:+ s := by
    intro y hl hy
    obtain ⟨⟨L, r'⟩, hx, e⟩ := Option.map_eq_some_iff.1 hy
    cases e
    exact (endX_suffix hx).trans hl
  have htag : ∀ y, y <:+ s → (tagX y).map (fun x => (PtX.tags x.1, x.2)) = some (p, r) → r <:+ s := by
    intro y hl hy
    obtain ⟨⟨L, r'⟩, hx, e⟩ := Option.map_eq_some_iff.1 hy
    cases e
    exact (tagX_suffix hx).trans hl
  have hup : ∀ (e y : List UInt8) (f : List UInt8 × List UInt8 → List UInt8), y <:+ s → (upTo e y).map (fun x => (PtX.txt (f x), x.2)) = some (p, r) → r <:+ s := by
    intro e y f hl hy
    obtain ⟨⟨a, b⟩, hx, e⟩ := Option.map_eq_some_iff.1 hy
    cases e
    exact (upTo_suffix hx).trans hl
  unfold partX at h
  split at h
  · rename_i y hy; exact hup eComment y (fun _ => []) (past_suffix hy) h
  split at h
  · rename_i y hy; exact hup eInstr y (fun _ => []) (past_suffix hy) h
  split at h
  · rename_i y hy
    obtain ⟨⟨a, b⟩, hx, e⟩ := Option.bind_eq_some_iff.1 h
    split at e
    · cases e
    · cases e
      exact (upTo_suffix hx).trans (past_suffix hy)
  split at h
  · rename_i y hy; exact hup eData y (fun x => x.1) (past_suffix hy) h
  split at h
  · rename_i y hy; exact hend y (past_suffix hy) h
  split at h
  · rename_i y hy; exact htag y (past_suffix hy) h
  split at h
  · rename_i y hy
    obtain ⟨⟨t, r'⟩, hx, e⟩ := Option.map_eq_some_iff.1 h
    cases e
    have h2 : r' <:+ y := by
      have := refX_drop hx
      rw [← this]
      exact List.drop_suffix _ _
    exact h2.trans (past_suffix hy)
  split at h
  · cases h
  · cases h
    exact List.suffix_cons _ _
theorem partX_drop {s : List UInt8} {p : PtX} {r : List UInt8} (h : partX s = some (p, r)) : s.drop (s.length - r.length) = r := by
  obtain ⟨q, hq⟩ := partX_suffix h
  rw [← hq, List.length_append, Nat.add_sub_cancel, List.drop_left]
end Go.Proofs.YtjoeamlidmmioaaGreatDoor

