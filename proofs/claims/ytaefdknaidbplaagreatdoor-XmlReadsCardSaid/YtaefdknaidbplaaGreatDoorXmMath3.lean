/-
  LAYER 11 (xml), plain mathematics: what is written is read as it was.
-/
import Derived.Test.YtaefdknaidbplaaGreatDoorXmMath2
namespace Go.Proofs.YtaefdknaidbplaaGreatDoor
set_option linter.unusedVariables false
set_option maxRecDepth 100000

/-! ### what is written is read -/
theorem mem_tw {p : UInt8 → Bool} : ∀ {l : List UInt8} {x : UInt8}, x ∈ l.takeWhile p → p x = true
  | c :: r, x, h => by
    by_cases hc : p c = true
    · rw [List.takeWhile_cons_of_pos hc] at h
      rcases List.mem_cons.1 h with rfl | h
      · exact hc
      · exact mem_tw h
    · rw [List.takeWhile_cons_of_neg hc] at h; cases h
def NmOk (n : List UInt8) : Prop := n ≠ [] ∧ nameX n = (n, [])
theorem nameX_ok {s : List UInt8} (h : (nameX s).1 ≠ []) : NmOk (nameX s).1 := by
  obtain ⟨c, r, rfl, hc⟩ := nameX_head h
  refine ⟨h, ?_⟩
  simp only [nameX, hc, if_true]
  have h1 : ∀ x ∈ r.takeWhile nmc, nmc x = true := fun x hx => mem_tw hx
  have h2 := List.takeWhile_append_of_pos (l₂ := []) h1
  have h3 := List.dropWhile_append_of_pos (l₂ := []) h1
  rw [List.append_nil] at h2 h3
  rw [h2, h3]; simp
theorem nmOk_parts {n : List UInt8} (h : NmOk n) : ∃ c r, n = c :: r ∧ begX c = true ∧ ∀ x ∈ r, nmc x = true := by
  obtain ⟨h1, h2⟩ := h
  obtain ⟨c, r, rfl, hc⟩ := nameX_head (y := n) (by rw [h2]; exact h1)
  refine ⟨c, r, rfl, hc, ?_⟩
  simp only [nameX, hc, if_true, Prod.mk.injEq, List.cons.injEq, true_and] at h2
  intro x hx
  rw [← h2.1] at hx
  exact mem_tw hx
theorem nameX_put {n : List UInt8} (h : NmOk n) {x : UInt8} (hx : nmc x = false) (y : List UInt8) : nameX (n ++ x :: y) = (n, x :: y) := by
  obtain ⟨c, r, rfl, hc, hr⟩ := nmOk_parts h
  simp only [List.cons_append, nameX, hc, if_true]
  rw [List.takeWhile_append_of_pos hr, List.dropWhile_append_of_pos hr]
  simp [hx]
theorem nmc_62 : nmc 62 = false := by decide
theorem nmc_32 : nmc 32 = false := by decide
theorem nmc_61 : nmc 61 = false := by decide
theorem nmc_47 : nmc 47 = false := by decide

theorem upTo_put {q : UInt8} : ∀ {s : List UInt8} (u : List UInt8), q ∉ s → upTo [q] (s ++ q :: u) = some (s, u)
  | [], u, _ => by simp [upTo]
  | c :: r, u, h => by
    have h1 : q ≠ c := fun e => h (by rw [e]; exact List.mem_cons_self ..)
    have h2 : q ∉ r := fun e => h (List.mem_cons_of_mem _ e)
    rw [List.cons_append]
    unfold upTo
    rw [if_neg (by simp [h1]), upTo_put u h2]; rfl
theorem escB_mem {c q : UInt8} (h : q ∈ escB c) (hq : q = 34 ∨ q = 39 ∨ q = 60) : False := by
  unfold escB at h
  rcases hq with rfl | rfl | rfl <;> (repeat' split at h) <;> simp at h <;> simp_all
theorem escX_mem {s : List UInt8} {q : UInt8} (hq : q = 34 ∨ q = 39 ∨ q = 60) : q ∉ escX s := by
  intro h
  obtain ⟨c, _, h2⟩ := List.mem_flatMap.1 h
  exact escB_mem h2 hq
theorem escX_nil : escX [] = [] := rfl
theorem escX_cons (c : UInt8) (r : List UInt8) : escX (c :: r) = escB c ++ escX r := rfl
/-- The reference of a byte that is escaped. -/
theorem refX_esc (y : List UInt8) : refX (97 :: 109 :: 112 :: 59 :: y) = some ([38], y) ∧ refX (108 :: 116 :: 59 :: y) = some ([60], y) ∧ refX (103 :: 116 :: 59 :: y) = some ([62], y) ∧ refX (113 :: 117 :: 111 :: 116 :: 59 :: y) = some ([34], y) ∧ refX (97 :: 112 :: 111 :: 115 :: 59 :: y) = some ([39], y) := by
  refine ⟨?_, ?_, ?_, ?_, ?_⟩ <;> simp [refX, upTo, denX]
theorem escB_cases (c : UInt8) : (escB c = [c] ∧ c ≠ 38 ∧ c ≠ 60) ∨ ∃ l, escB c = 38 :: l ∧ ∀ y, refX (l ++ y) = some ([c], y) := by
  unfold escB
  by_cases h1 : c = 38
  · right; subst h1; exact ⟨[97, 109, 112, 59], by simp, fun y => (refX_esc y).1⟩
  by_cases h2 : c = 60
  · right; subst h2; exact ⟨[108, 116, 59], by simp, fun y => (refX_esc y).2.1⟩
  by_cases h3 : c = 62
  · right; subst h3; exact ⟨[103, 116, 59], by simp, fun y => (refX_esc y).2.2.1⟩
  by_cases h4 : c = 34
  · right; subst h4; exact ⟨[113, 117, 111, 116, 59], by simp, fun y => (refX_esc y).2.2.2.1⟩
  by_cases h5 : c = 39
  · right; subst h5; exact ⟨[97, 112, 111, 115, 59], by simp, fun y => (refX_esc y).2.2.2.2⟩
  left; simp [h1, h2, h3, h4, h5]
theorem saidX_esc : ∀ s : List UInt8, saidX (escX s) = some s
  | [] => saidX_nil
  | c :: r => by
    rw [escX_cons]
    rcases escB_cases c with ⟨h1, h2, h3⟩ | ⟨l, h1, h2⟩
    · rw [h1, List.singleton_append, saidX_cons, if_neg h2, saidX_esc r]; rfl
    · rw [h1, List.cons_append, saidX_cons, if_pos rfl, h2, Option.bind_some]
      simp only
      rw [saidX_esc r]; rfl
theorem partX_esc (c : UInt8) (y : List UInt8) : partX (escB c ++ y) = some (.txt [c], y) := by
  rcases escB_cases c with ⟨h1, h2, h3⟩ | ⟨l, h1, h2⟩
  · rw [h1, List.singleton_append, partX_byte h3 h2]
  · rw [h1, List.cons_append, partX_ref, h2]; rfl
theorem partsX_esc : ∀ (s u : List UInt8), partsX (escX s ++ u) = (s.map (fun c => .txt [c]) ++ (partsX u).1, (partsX u).2)
  | [], u => rfl
  | c :: r, u => by
    rw [escX_cons, List.append_assoc, partsX_some (partX_esc c _), partsX_esc r u]; rfl
theorem attrX_put {a : AtX} (h : NmOk a.n) {q : UInt8} (hq : q = 34 ∨ q = 39) (u : List UInt8) : attrX (a.n ++ [61, q] ++ escX a.v ++ [q] ++ u) = some (a, u) := by
  have e : a.n ++ [61, q] ++ escX a.v ++ [q] ++ u = a.n ++ 61 :: (q :: (escX a.v ++ q :: u)) := by simp
  have hsp : spcX q = false := by rcases hq with rfl | rfl <;> decide
  rw [e]
  unfold attrX
  rw [nameX_put h nmc_61]
  simp only
  rw [if_neg h.1, List.dropWhile_cons_of_neg (by decide)]
  simp only
  rw [List.dropWhile_cons_of_neg (by simp [hsp])]
  simp only
  rw [if_pos hq, upTo_put _ (escX_mem (by rcases hq with h | h; exact .inl h; exact .inr (.inl h))), Option.bind_some]
  simp only
  rw [if_neg (escX_mem (.inr (.inr rfl))), saidX_esc]; rfl
def DistF : List AtX → List AtX → Prop
  | _, [] => True
  | acc, a :: l => NmOk a.n ∧ hasX acc a.n = false ∧ DistF (acc ++ [a]) l
/-- Behind one space at least, an attribute. -/
theorem attrsX_step {s r : List UInt8} {l : List AtX} {a : AtX} (hs : attrX s = some (a, r)) (hh : hasX l a.n = false) (hn : NmOk a.n) (h0 : s.dropWhile spcX = s) : attrsX (32 :: s) l = attrsX r (l ++ [a]) := by
  rw [attrsX_eq]
  unfold attrsG
  have hd : (32 :: s).dropWhile spcX = s := by rw [List.dropWhile_cons_of_pos (by decide), h0]
  rw [hd]
  have hne : (nameX s).1 ≠ [] := by
    intro e; unfold attrX at hs; rw [if_pos e] at hs; cases hs
  obtain ⟨c, t, rfl, hc⟩ := nameX_head hne
  have h62 : c ≠ 62 := by rintro rfl; exact absurd hc (by decide)
  have h47 : c ≠ 47 := (begX_not hc).2.2
  split
  · rename_i e; exact absurd (List.cons.inj e).1 h62
  · rename_i e; exact absurd (List.cons.inj e).1 h47
  · rw [hs, Option.bind_some]
    simp only
    rw [if_pos ⟨by simp, hh⟩]
theorem begX_spc {c : UInt8} (h : begX c = true) : spcX c = false := by
  unfold spcX
  have a1 : c ≠ 32 := by rintro rfl; exact absurd h (by decide)
  have a2 : c ≠ 9 := by rintro rfl; exact absurd h (by decide)
  have a3 : c ≠ 10 := by rintro rfl; exact absurd h (by decide)
  have a4 : c ≠ 13 := by rintro rfl; exact absurd h (by decide)
  simp [a1, a2, a3, a4]
theorem attrsX_put : ∀ (l acc : List AtX) (u : List UInt8), DistF acc l → attrsX (l.flatMap wAt ++ [62] ++ u) acc = some (acc ++ l, false, u)
  | [], acc, u, _ => by
    rw [attrsX_eq]
    simp [attrsG, spcX]
  | a :: l, acc, u, h => by
    obtain ⟨h1, h2, h3⟩ := h
    have e : (a :: l).flatMap wAt ++ [62] ++ u = 32 :: (a.n ++ [61, 34] ++ escX a.v ++ [34] ++ (l.flatMap wAt ++ [62] ++ u)) := by simp [wAt]
    rw [e, attrsX_step (attrX_put h1 (.inl rfl) _) h2 h1, attrsX_put l _ u h3]
    · simp
    · obtain ⟨c, r, hn, hc, _⟩ := nmOk_parts h1
      rw [hn]
      simp only [List.cons_append]
      rw [List.dropWhile_cons_of_neg (by simp [begX_spc hc])]
theorem attrsX_dist : ∀ (n : Nat) {s : List UInt8} {l m : List AtX} {b : Bool} {r : List UInt8}, s.length ≤ n → attrsX s l = some (m, b, r) → ∃ k, m = l ++ k ∧ DistF l k := by
  intro n
  induction n with
  | zero =>
    intro s l m b r hn h
    have := attrsX_lt s.length (Nat.le_refl _) h
    omega
  | succ n ih =>
    intro s l m b r hn h
    rw [attrsX_eq] at h
    unfold attrsG at h
    have h1 := dropW_len spcX s
    split at h
    · cases h; exact ⟨[], by simp, trivial⟩
    · cases h; exact ⟨[], by simp, trivial⟩
    · obtain ⟨⟨a, r'⟩, h2, h3⟩ := Option.bind_eq_some_iff.1 h
      have h4 := attrX_lt h2
      simp only at h3
      split at h3
      · rename_i hc
        obtain ⟨k, rfl, hk⟩ := ih (by omega) h3
        refine ⟨a :: k, by simp, ?_, hc.2, hk⟩
        have hne : (nameX (s.dropWhile spcX)).1 ≠ [] := by
          intro e; unfold attrX at h2; rw [if_pos e] at h2; cases h2
        have : a.n = (nameX (s.dropWhile spcX)).1 := by
          unfold attrX at h2
          rw [if_neg hne] at h2
          split at h2
          · split at h2
            · split at h2
              · obtain ⟨x, _, h5⟩ := Option.bind_eq_some_iff.1 h2
                split at h5
                · cases h5
                · obtain ⟨v, _, h6⟩ := Option.map_eq_some_iff.1 h5
                  cases h6; rfl
              · cases h2
            · cases h2
          · cases h2
        rw [this]
        exact nameX_ok hne
      · cases h3
/-- A token as it is read. -/
def TkOk (t : TkX) : Prop := (t.k = 1 ∧ NmOk t.n ∧ DistF [] t.as ∧ t.t = []) ∨ (t.k = 2 ∧ NmOk t.n ∧ t.as = [] ∧ t.t = []) ∨ (t.k = 3 ∧ t.n = [] ∧ t.as = [] ∧ t.t ≠ [])
def TagOk (t : TkX) : Prop := TkOk t ∧ t.k ≠ 3
theorem partX_open {t : TkX} (h1 : t.k = 1) (h2 : NmOk t.n) (h3 : DistF [] t.as) (h4 : t.t = []) (u : List UInt8) : partX (wTk t ++ u) = some (.tags [t], u) := by
  obtain ⟨k, n, l, x⟩ := t
  simp only at h1 h2 h3 h4
  subst h1 h4
  have e : wTk ⟨1, n, l, []⟩ ++ u = 60 :: (n ++ (l.flatMap wAt ++ [62] ++ u)) := by simp [wTk]
  rw [e]
  have hx : ∃ x y, l.flatMap wAt ++ [62] ++ u = x :: y ∧ nmc x = false := by
    cases l with
    | nil => exact ⟨62, u, by simp, nmc_62⟩
    | cons a l => exact ⟨32, a.n ++ [61, 34] ++ escX a.v ++ [34] ++ (l.flatMap wAt ++ [62] ++ u), by simp [wAt], nmc_32⟩
  obtain ⟨x, y, hxy, hnx⟩ := hx
  have hnm : nameX (n ++ (l.flatMap wAt ++ [62] ++ u)) = (n, l.flatMap wAt ++ [62] ++ u) := by rw [hxy, nameX_put h2 hnx]
  rw [partX_tag (by rw [hnm]; exact h2.1)]
  unfold tagX
  rw [hnm]
  simp only
  rw [if_neg h2.1, attrsX_put l [] u h3]
  rfl
theorem partX_close {t : TkX} (h1 : t.k = 2) (h2 : NmOk t.n) (h3 : t.as = []) (h4 : t.t = []) (u : List UInt8) : partX (wTk t ++ u) = some (.tags [t], u) := by
  obtain ⟨k, n, l, x⟩ := t
  simp only at h1 h2 h3 h4
  subst h1 h3 h4
  have e : wTk ⟨2, n, [], []⟩ ++ u = 60 :: 47 :: (n ++ 62 :: u) := by simp [wTk]
  rw [e, partX_end]
  unfold endX
  rw [nameX_put h2 nmc_62]
  simp only
  rw [if_neg h2.1, List.dropWhile_cons_of_neg (by decide)]
  rfl
def ptsOf (t : TkX) : List PtX := if t.k = 3 then t.t.map (fun c => .txt [c]) else [.tags [t]]
theorem partsX_tk {t : TkX} (h : TkOk t) (u : List UInt8) : partsX (wTk t ++ u) = (ptsOf t ++ (partsX u).1, (partsX u).2) := by
  rcases h with ⟨h1, h2, h3, h4⟩ | ⟨h1, h2, h3, h4⟩ | ⟨h1, h2, h3, h4⟩
  · rw [partsX_some (partX_open h1 h2 h3 h4 u), ptsOf, if_neg (by omega)]; rfl
  · rw [partsX_some (partX_close h1 h2 h3 h4 u), ptsOf, if_neg (by omega)]; rfl
  · rw [ptsOf, if_pos h1]
    have : wTk t = escX t.t := by simp [wTk, h1]
    rw [this, partsX_esc]
theorem partsX_write : ∀ l : List TkX, (∀ t ∈ l, TkOk t) → partsX (writeX l) = (l.flatMap ptsOf, none)
  | [], _ => rfl
  | t :: l, h => by
    show partsX (wTk t ++ writeX l) = _
    rw [partsX_tk (h t (List.mem_cons_self ..)), partsX_write l fun x hx => h x (List.mem_cons_of_mem _ hx)]
    rfl
/-- Words never stand beside words. -/
def Alt : Bool → List TkX → Prop
  | _, [] => True
  | b, t :: l => (b = true → t.k ≠ 3) ∧ Alt (decide (t.k = 3)) l
theorem tokX_txts (t w : List UInt8) (ps : List PtX) : tokX w (t.map (fun c => .txt [c]) ++ ps) = tokX (w ++ t) ps := by
  induction t generalizing w with
  | nil => simp
  | cons c r ih =>
    show tokX (w ++ [c]) (r.map (fun c => .txt [c]) ++ ps) = _
    rw [ih]; simp
theorem tokX_pts : ∀ (l : List TkX) (w : List UInt8), (∀ t ∈ l, TkOk t) → Alt (decide (w ≠ [])) l → tokX w (l.flatMap ptsOf) = endW w ++ l
  | [], w, _, _ => by simp [tokX]
  | t :: l, w, h, ha => by
    have ht := h t (List.mem_cons_self ..)
    have hl := fun x hx => h x (List.mem_cons_of_mem t hx)
    rw [List.flatMap_cons]
    by_cases h3 : t.k = 3
    · have hw : w = [] := by
        rcases ha with ⟨a1, _⟩
        by_cases hw : w = []
        · exact hw
        · exact absurd h3 (a1 (by simpa using hw))
      subst hw
      have hs : t.n = [] ∧ t.as = [] ∧ t.t ≠ [] := by
        rcases ht with ⟨h, _⟩ | ⟨h, _⟩ | ⟨_, h⟩
        · omega
        · omega
        · exact h
      rw [ptsOf, if_pos h3, tokX_txts, List.nil_append, tokX_pts l t.t hl]
      · obtain ⟨k, n, as, x⟩ := t
        simp only at h3 hs
        obtain ⟨rfl, rfl, hx⟩ := hs
        subst h3
        simp [endW, hx, wordsT]
      · have := ha.2
        rw [decide_eq_true h3] at this
        rw [decide_eq_true hs.2.2]
        exact this
    · rw [ptsOf, if_neg h3]
      show endW w ++ [t] ++ tokX [] (l.flatMap ptsOf) = _
      rw [tokX_pts l [] hl]
      · simp [endW]
      · have := ha.2
        rw [decide_eq_false h3] at this
        simpa using this
/-- What parts are of a text that was read. -/
def PtOk : PtX → Prop
  | .txt _ => True
  | .tags l => l ≠ [] ∧ ∀ t ∈ l, TagOk t
theorem partX_ok {s : List UInt8} {p : PtX} {r : List UInt8} (h : partX s = some (p, r)) : PtOk p := by
  unfold partX at h
  have hm : ∀ {α : Type} {o : Option (α × List UInt8)} {F : α × List UInt8 → PtX}, o.map (fun x => (F x, x.2)) = some (p, r) → (∀ a b, o = some (a, b) → PtOk (F (a, b))) → PtOk p := by
    intro α o F h1 h2
    obtain ⟨⟨a, b⟩, h3, h4⟩ := Option.map_eq_some_iff.1 h1
    simp only [Prod.mk.injEq] at h4
    obtain ⟨rfl, _⟩ := h4
    exact h2 a b h3
  split at h
  · exact hm h (fun _ _ _ => trivial)
  split at h
  · exact hm h (fun _ _ _ => trivial)
  split at h
  · obtain ⟨⟨a, b⟩, h3, h4⟩ := Option.bind_eq_some_iff.1 h
    simp only at h4
    split at h4
    · cases h4
    · cases h4; exact trivial
  split at h
  · exact hm h (fun _ _ _ => trivial)
  split at h
  · refine hm h (fun a b hh => ?_)
    unfold endX at hh
    split at hh
    · cases hh
    · rename_i hn
      split at hh
      · cases hh
        refine ⟨by simp, fun t ht => ?_⟩
        simp at ht
        subst ht
        exact ⟨.inr (.inl ⟨rfl, nameX_ok hn, rfl, rfl⟩), fun e => absurd (show (2 : Int) = 3 from e) (by decide)⟩
      · cases hh
  split at h
  · refine hm h (fun a b hh => ?_)
    unfold tagX at hh
    split at hh
    · cases hh
    · rename_i hn
      obtain ⟨⟨m, f, r'⟩, h1, h2⟩ := Option.map_eq_some_iff.1 hh
      cases h2
      obtain ⟨k, hk, hd⟩ := attrsX_dist _ (Nat.le_refl _) h1
      refine ⟨by simp, fun t ht => ?_⟩
      rw [List.mem_cons] at ht
      rcases ht with rfl | ht
      · exact ⟨.inl ⟨rfl, nameX_ok hn, by simp at hk; show DistF [] m; rw [hk]; exact hd, rfl⟩, fun e => absurd (show (1 : Int) = 3 from e) (by decide)⟩
      · cases f with
        | false => simp at ht
        | true =>
          simp at ht
          subst ht
          exact ⟨.inr (.inl ⟨rfl, nameX_ok hn, rfl, rfl⟩), fun e => absurd (show (2 : Int) = 3 from e) (by decide)⟩
  split at h
  · exact hm h (fun _ _ _ => trivial)
  · split at h
    · cases h
    · cases h; exact trivial
theorem partsX_ok : ∀ (n : Nat) {s : List UInt8}, s.length ≤ n → ∀ p ∈ (partsX s).1, PtOk p := by
  intro n
  induction n with
  | zero =>
    intro s hn
    have : s = [] := List.length_eq_zero_iff.1 (by omega)
    subst this
    intro p hp; cases hp
  | succ n ih =>
    intro s hn
    cases hp : partX s with
    | none =>
      by_cases hs : s = []
      · subst hs; intro p hp; cases hp
      · rw [partsX_bad hs hp]; intro p hp; cases hp
    | some x =>
      obtain ⟨q, r⟩ := x
      have hl := partX_lt hp
      rw [partsX_some hp]
      intro p hpp
      rcases List.mem_cons.1 hpp with rfl | hpp
      · exact partX_ok hp
      · exact ih (by omega) p hpp
theorem alt_weak {l : List TkX} {b : Bool} (h : Alt true l) : Alt b l := by
  cases l with
  | nil => exact trivial
  | cons t l => exact ⟨fun _ => h.1 rfl, h.2⟩
theorem alt_tags : ∀ (m l : List TkX) (b : Bool), (∀ t ∈ m, TagOk t) → m ≠ [] → Alt false l → Alt b (m ++ l)
  | [], _, _, _, h, _ => absurd rfl h
  | t :: m, l, b, h, _, hl => by
    have ht := h t (List.mem_cons_self ..)
    refine ⟨fun _ => ht.2, ?_⟩
    rw [decide_eq_false ht.2]
    cases m with
    | nil => exact hl
    | cons u m => exact alt_tags (u :: m) l false (fun x hx => h x (List.mem_cons_of_mem _ hx)) (by simp) hl
theorem tokX_ok : ∀ (ps : List PtX) (w : List UInt8), (∀ p ∈ ps, PtOk p) → (∀ t ∈ tokX w ps, TkOk t) ∧ Alt false (tokX w ps)
  | [], w, _ => by
    unfold tokX endW
    split
    · exact ⟨by simp, trivial⟩
    · rename_i hw
      exact ⟨fun t ht => by simp at ht; subst ht; exact .inr (.inr ⟨rfl, rfl, rfl, hw⟩), by simp, trivial⟩
  | .txt t :: ps, w, h => tokX_ok ps (w ++ t) fun p hp => h p (List.mem_cons_of_mem _ hp)
  | .tags m :: ps, w, h => by
    obtain ⟨h1, h2⟩ := h _ (List.mem_cons_self ..)
    obtain ⟨h3, h4⟩ := tokX_ok ps [] fun p hp => h p (List.mem_cons_of_mem _ hp)
    show (∀ t ∈ endW w ++ m ++ tokX [] ps, TkOk t) ∧ Alt false (endW w ++ m ++ tokX [] ps)
    refine ⟨fun t ht => ?_, ?_⟩
    · simp only [List.mem_append] at ht
      rcases ht with (ht | ht) | ht
      · unfold endW at ht
        split at ht
        · cases ht
        · rename_i hw
          simp at ht; subst ht
          exact .inr (.inr ⟨rfl, rfl, rfl, hw⟩)
      · exact (h2 t ht).1
      · exact h3 t ht
    · have := fun b => alt_tags m (tokX [] ps) b h2 h1 h4
      unfold endW
      split
      · simpa using this false
      · exact ⟨by simp, by simpa using this (decide ((wordsT w).k = 3))⟩
/-- X3: what is read, written and read again. -/
theorem read_back {s : List UInt8} {l : List TkX} {n : Nat} (h : readX s = (some l, n)) : readX (writeX l) = (some l, 0) := by
  unfold readX at h
  split at h
  · cases h
    obtain ⟨h1, h2⟩ := tokX_ok (partsX s).1 [] (partsX_ok _ (Nat.le_refl _))
    have h3 := partsX_write _ h1
    unfold readX
    rw [h3]
    simp only
    rw [tokX_pts _ [] h1 (by simpa using h2)]
    rfl
  · cases h
theorem read_ok {s : List UInt8} {l : List TkX} {n : Nat} (h : readX s = (some l, n)) : (∀ t ∈ l, TkOk t) ∧ n = 0 := by
  unfold readX at h
  split at h
  · cases h
    exact ⟨(tokX_ok (partsX s).1 [] (partsX_ok _ (Nat.le_refl _))).1, rfl⟩
  · cases h
theorem read_esc (s : List UInt8) : readX (escX s) = (some (endW s), 0) := by
  have h := partsX_esc s []
  rw [List.append_nil, partsX_nil, List.append_nil] at h
  unfold readX
  rw [h]
  simp only
  have := tokX_txts s [] []
  rw [List.append_nil, List.nil_append] at this
  rw [this, tokX_nil]
theorem nmOk_a : NmOk [97] := ⟨by simp, by decide⟩
theorem nmOk_x : NmOk [120] := ⟨by simp, by decide⟩
/-- An escaped text in a value and between tags. -/
theorem read_both (s : List UInt8) : readX ([60, 97, 32, 120, 61, 39] ++ escX s ++ [39, 62] ++ escX s ++ [60, 47, 97, 62]) = (some (openT [97] [⟨[120], s⟩] :: endW s ++ [closeT [97]]), 0) := by
  have e : [60, 97, 32, 120, 61, 39] ++ escX s ++ [39, 62] ++ escX s ++ [60, 47, 97, 62] = 60 :: ([97] ++ 32 :: ([120] ++ [61, 39] ++ escX s ++ [39] ++ (62 :: (escX s ++ [60, 47, 97, 62])))) := by simp
  have hnm : nameX ([97] ++ 32 :: ([120] ++ [61, 39] ++ escX s ++ [39] ++ (62 :: (escX s ++ [60, 47, 97, 62])))) = ([97], 32 :: ([120] ++ [61, 39] ++ escX s ++ [39] ++ (62 :: (escX s ++ [60, 47, 97, 62])))) := nameX_put nmOk_a nmc_32 _
  have ha := attrX_put (a := ⟨[120], s⟩) nmOk_x (q := 39) (.inr rfl) (62 :: (escX s ++ [60, 47, 97, 62]))
  simp only at ha
  have ht : partX (60 :: ([97] ++ 32 :: ([120] ++ [61, 39] ++ escX s ++ [39] ++ (62 :: (escX s ++ [60, 47, 97, 62]))))) = some (.tags [openT [97] [⟨[120], s⟩]], escX s ++ [60, 47, 97, 62]) := by
    rw [partX_tag (by rw [hnm]; simp)]
    unfold tagX
    rw [hnm]
    simp only
    rw [if_neg (by simp), attrsX_step ha rfl nmOk_x (by simp only [List.cons_append]; rw [List.dropWhile_cons_of_neg (by decide)]), attrsX_eq]
    unfold attrsG
    rw [List.dropWhile_cons_of_neg (by decide)]
    rfl
  have hc : partsX [60, 47, 97, 62] = ([.tags [closeT [97]]], none) := by rfl
  rw [e]
  unfold readX
  rw [partsX_some ht, partsX_esc, hc]
  simp only
  show (some (endW [] ++ [openT [97] [⟨[120], s⟩]] ++ tokX [] (s.map (fun c => .txt [c]) ++ [.tags [closeT [97]]])), 0) = _
  rw [tokX_txts]
  simp [endW, tokX]
end Go.Proofs.YtaefdknaidbplaaGreatDoor
