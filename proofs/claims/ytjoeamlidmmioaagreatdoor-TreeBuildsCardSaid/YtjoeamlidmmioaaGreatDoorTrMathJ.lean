import Derived.Test.YtjoeamlidmmioaaGreatDoorMq1J
/-
  LAYER 12 (tree), plain mathematics: trees, what tokens build, the tokens of a tree, how many elements, how deep.
-/
namespace Go.Proofs.YtjoeamlidmmioaaGreatDoor
set_option linter.unusedVariables false
set_option maxRecDepth 100000

/-- A tree. -/
inductive Tr where
  | nd (n : List UInt8) (as : List AtX) (t : List UInt8) (ks : List Tr)
def trN : Tr → List UInt8 | .nd n _ _ _ => n
def trA : Tr → List AtX | .nd _ a _ _ => a
def trT : Tr → List UInt8 | .nd _ _ t _ => t
def trK : Tr → List Tr | .nd _ _ _ k => k
def tr0 : Tr := .nd [] [] [] []
theorem tr_eta (t : Tr) : t = .nd (trN t) (trA t) (trT t) (trK t) := by cases t; rfl
/-- An element that is open. -/
structure OpX where
  n : List UInt8
  as : List AtX
  ws : List (List UInt8)
  ks : List Tr
/-- What has been built: the open elements, the innermost one first; the first element, when it has ended. -/
structure BdX where
  op : List OpX
  root : Option Tr
def shutX (e : OpX) : Tr := .nd e.n e.as e.ws.flatten e.ks
def endB (e : OpX) (st : List OpX) (root : Option Tr) : BdX :=
  match st with
  | [] => ⟨[], some (shutX e)⟩
  | d :: r => ⟨{ d with ks := d.ks ++ [shutX e] } :: r, root⟩
def takeX (s : BdX) (t : TkX) : Int × BdX :=
  if t.k = 1 then (if s.op.length = 20 then (19, s) else if s.root.isSome then (8, s) else (0, ⟨⟨t.n, t.as, [], []⟩ :: s.op, s.root⟩))
  else if t.k = 2 then (match s.op with
    | [] => (8, s)
    | e :: r => if e.n = t.n then (0, endB e r s.root) else (8, s))
  else if t.k = 3 then (match s.op with
    | [] => if t.t.all spcX then (0, s) else (8, s)
    | e :: r => (0, ⟨{ e with ws := e.ws ++ [t.t] } :: r, s.root⟩))
  else (8, s)
def foldX : BdX → List TkX → Int × BdX
  | s, [] => (0, s)
  | s, t :: r => if (takeX s t).1 = 0 then foldX (takeX s t).2 r else takeX s t
def bdX0 : BdX := ⟨[], none⟩
def buildX (L : List TkX) : Tr × Int :=
  if (foldX bdX0 L).1 = 0 then (match (foldX bdX0 L).2.root with | none => (tr0, 8) | some t => (t, 0)) else (tr0, (foldX bdX0 L).1)
theorem foldX_cons {s s' : BdX} {t : TkX} {r : List TkX} (h : takeX s t = (0, s')) : foldX s (t :: r) = foldX s' r := by
  show (if (takeX s t).1 = 0 then foldX (takeX s t).2 r else takeX s t) = _
  rw [h, if_pos rfl]
theorem foldX_bad {s s' : BdX} {t : TkX} {r : List TkX} {e : Int} (h : takeX s t = (e, s')) (he : e ≠ 0) : foldX s (t :: r) = (e, s') := by
  show (if (takeX s t).1 = 0 then foldX (takeX s t).2 r else takeX s t) = _
  rw [h, if_neg he]
theorem take_len (s : BdX) (t : TkX) : (takeX s t).2.op.length ≤ s.op.length + 1 := by
  unfold takeX
  split
  · split
    · simp
    · split <;> simp
  · split
    · split
      · simp
      · rename_i e r h
        rw [h]
        split
        · unfold endB; split <;> simp
        · rw [h]; simp
    · split
      · split
        · split <;> simp
        · rename_i e r h; simp [h]
      · simp

/-! ### the tokens of a tree -/
mutual
def tokT : Tr → List TkX
  | .nd n as t ks => openT n as :: ((if t = [] then [] else [wordsT t]) ++ (toksT ks ++ [closeT n]))
def toksT : List Tr → List TkX
  | [] => []
  | k :: r => tokT k ++ toksT r
end
mutual
def manyT : Tr → Nat
  | .nd _ _ _ ks => manysT ks + 1
def manysT : List Tr → Nat
  | [] => 0
  | k :: r => manyT k + manysT r
end
mutual
def deepT : Tr → Nat
  | .nd _ _ _ ks => deepsT ks + 1
def deepsT : List Tr → Nat
  | [] => 0
  | k :: r => max (deepT k) (deepsT r)
end
theorem deep_pos (t : Tr) : 1 ≤ deepT t := by cases t; unfold deepT; omega
theorem many_pos (t : Tr) : 1 ≤ manyT t := by cases t; unfold manyT; omega
theorem toksT_append (a b : List Tr) : toksT (a ++ b) = toksT a ++ toksT b := by
  induction a with
  | nil => simp [toksT]
  | cons x r ih => simp [toksT, ih]

/-! ### what they build -/
/-- A whole element put where the open ones stand. -/
def putB (st : List OpX) (t : Tr) : BdX :=
  match st with
  | [] => ⟨[], some t⟩
  | d :: r => ⟨{ d with ks := d.ks ++ [t] } :: r, none⟩
theorem endB_put (e : OpX) (st : List OpX) : endB e st none = putB st (shutX e) := by cases st <;> rfl
theorem take_open {st : List OpX} (h : st.length < 20) (n : List UInt8) (as : List AtX) : takeX ⟨st, none⟩ (openT n as) = (0, ⟨⟨n, as, [], []⟩ :: st, none⟩) := by
  show (if st.length = 20 then _ else _) = _
  rw [if_neg (by omega)]; rfl
theorem take_deep {st : List OpX} (h : st.length = 20) (n : List UInt8) (as : List AtX) : takeX ⟨st, none⟩ (openT n as) = (19, ⟨st, none⟩) := by
  show (if st.length = 20 then _ else _) = _
  rw [if_pos h]
theorem take_words (e : OpX) (st : List OpX) (r : Option Tr) (t : List UInt8) : takeX ⟨e :: st, r⟩ (wordsT t) = (0, ⟨{ e with ws := e.ws ++ [t] } :: st, r⟩) := rfl
theorem take_close (e : OpX) (st : List OpX) (r : Option Tr) : takeX ⟨e :: st, r⟩ (closeT e.n) = (0, endB e st r) := by
  show (if e.n = e.n then _ else _) = _
  rw [if_pos rfl]
mutual
theorem fold_tree : ∀ (t : Tr) (st : List OpX) (R : List TkX), st.length + deepT t ≤ 20 → foldX ⟨st, none⟩ (tokT t ++ R) = foldX (putB st t) R
  | .nd n as t ks, st, R, h => by
    unfold deepT at h
    unfold tokT
    rw [List.cons_append, foldX_cons (take_open (by omega) n as), List.append_assoc, List.append_assoc]
    by_cases ht : t = []
    · subst ht
      rw [if_pos rfl, List.nil_append, fold_trees ks ⟨n, as, [], []⟩ st _ (by omega)]
      rw [List.singleton_append, foldX_cons (take_close ⟨n, as, [], [] ++ ks⟩ st none), endB_put]
      rfl
    · rw [if_neg ht, List.singleton_append, foldX_cons (take_words _ _ _ _), fold_trees ks ⟨n, as, [] ++ [t], []⟩ st _ (by omega)]
      rw [List.singleton_append, foldX_cons (take_close ⟨n, as, [] ++ [t], [] ++ ks⟩ st none), endB_put]
      unfold shutX
      simp
theorem fold_trees : ∀ (ks : List Tr) (e : OpX) (st : List OpX) (R : List TkX), st.length + 1 + deepsT ks ≤ 20 → foldX ⟨e :: st, none⟩ (toksT ks ++ R) = foldX ⟨{ e with ks := e.ks ++ ks } :: st, none⟩ R
  | [], e, st, R, h => by
    unfold toksT
    simp
  | k :: r, e, st, R, h => by
    unfold deepsT at h
    unfold toksT
    rw [List.append_assoc, fold_tree k (e :: st) _ (by simp; omega)]
    show foldX ⟨{ e with ks := e.ks ++ [k] } :: st, none⟩ _ = _
    rw [fold_trees r _ st R (by omega)]
    simp
end
mutual
theorem fold_deep : ∀ (t : Tr) (st : List OpX) (R : List TkX), st.length ≤ 20 → 20 < st.length + deepT t → (foldX ⟨st, none⟩ (tokT t ++ R)).1 = 19
  | .nd n as t ks, st, R, h20, h => by
    unfold deepT at h
    unfold tokT
    rw [List.cons_append]
    by_cases hl : st.length = 20
    · rw [foldX_bad (take_deep hl n as) (by decide)]
    · rw [foldX_cons (take_open (by omega) n as), List.append_assoc, List.append_assoc]
      by_cases ht : t = []
      · subst ht
        rw [if_pos rfl, List.nil_append]
        exact fold_deeps ks ⟨n, as, [], []⟩ st _ (by omega) (by omega)
      · rw [if_neg ht, List.singleton_append, foldX_cons (take_words _ _ _ _)]
        exact fold_deeps ks ⟨n, as, [] ++ [t], []⟩ st _ (by omega) (by omega)
theorem fold_deeps : ∀ (ks : List Tr) (e : OpX) (st : List OpX) (R : List TkX), st.length + 1 ≤ 20 → 20 < st.length + 1 + deepsT ks → (foldX ⟨e :: st, none⟩ (toksT ks ++ R)).1 = 19
  | [], e, st, R, h20, h => by
    unfold deepsT at h
    omega
  | k :: r, e, st, R, h20, h => by
    unfold deepsT at h
    unfold toksT
    rw [List.append_assoc]
    by_cases hk : 20 < st.length + 1 + deepT k
    · exact fold_deep k (e :: st) _ (by simpa using h20) (by simpa using hk)
    · rw [fold_tree k (e :: st) _ (by simp; omega)]
      exact fold_deeps r _ st R h20 (by omega)
end
/-- E4: the tree of a tree's tokens is the tree, if it is not too deep. -/
theorem build_tok (t : Tr) (h : deepT t ≤ 20) : buildX (tokT t) = (t, 0) := by
  have := fold_tree t [] [] (by simpa using h)
  rw [List.append_nil] at this
  unfold buildX bdX0
  rw [this]
  rfl
theorem build_deep (t : Tr) (h : 20 < deepT t) : buildX (tokT t) = (tr0, 19) := by
  have := fold_deep t [] [] (by simp) (by simpa using h)
  rw [List.append_nil] at this
  unfold buildX bdX0
  rw [this, if_neg (by decide)]
/-- An element round a tree. -/
theorem build_wrap (t : Tr) (n w : List UInt8) (h : deepT t < 20) : buildX (openT n [] :: (tokT t ++ [wordsT w, closeT n])) = (.nd n [] w [t], 0) := by
  have e : foldX bdX0 (openT n [] :: (tokT t ++ [wordsT w, closeT n])) = (0, ⟨[], some (.nd n [] w [t])⟩) := by
    unfold bdX0
    rw [foldX_cons (take_open (by decide) n []), fold_tree t [⟨n, [], [], []⟩] _ (by simp; omega)]
    show foldX ⟨[⟨n, [], [], [] ++ [t]⟩], none⟩ [wordsT w, closeT n] = _
    rw [foldX_cons (take_words _ _ _ _), foldX_cons (take_close ⟨n, [], [] ++ [w], [] ++ [t]⟩ [] none)]
    simp [foldX, endB, shutX]
  unfold buildX
  rw [e]
  rfl
theorem build_wrap_deep (t : Tr) (n : List UInt8) (R : List TkX) (h : 20 ≤ deepT t) : buildX (openT n [] :: (tokT t ++ R)) = (tr0, 19) := by
  unfold buildX bdX0
  rw [foldX_cons (take_open (by decide) n [])]
  have := fold_deep t [⟨n, [], [], []⟩] R (by simp) (by simp; omega)
  rw [this, if_neg (by decide)]
end Go.Proofs.YtjoeamlidmmioaaGreatDoor

