import GoSem.Op.String
import GoSem.ClaimWide
import Derived.WideShapes
/-
  Wq13: DkMath, in one text.
-/
/-
  LAYER 2 (disk), THE PLAIN MATHEMATICS: a disk as a list of files by rising names; what each call makes of it; what stays true whatever is called.
-/
namespace Go.Proofs.YtpcafkinpkepcaaGreatDoor
set_option linter.unusedVariables false
set_option maxRecDepth 100000

/-! ### the order of byte strings -/
theorem bytesBefore_lt : ∀ a b : List UInt8, bytesBefore a b = decide (a < b)
  | [], [] => by simp [bytesBefore]
  | [], _ :: _ => by simp [bytesBefore]
  | _ :: _, [] => by simp [bytesBefore]
  | a :: r, b :: s => by
    simp only [bytesBefore, bytesBefore_lt r s, List.cons_lt_cons_iff]
    by_cases h : a < b <;> by_cases h2 : a = b <;> simp [h, h2]
theorem bytesLess_lt : ∀ a b : List UInt8, Op.bytesLess a b = decide (a < b)
  | [], [] => by simp [Op.bytesLess]
  | [], _ :: _ => by simp [Op.bytesLess]
  | _ :: _, [] => by simp [Op.bytesLess]
  | a :: r, b :: s => by
    simp only [Op.bytesLess, bytesLess_lt r s, List.cons_lt_cons_iff]
    by_cases h : a < b <;> by_cases h2 : a = b <;> simp [h, h2]
theorem blt_irrefl (a : List UInt8) : ¬ a < a := List.lt_irrefl a
theorem blt_trans {a b c : List UInt8} (h : a < b) (k : b < c) : a < c := List.lt_trans h k
theorem blt_asymm {a b : List UInt8} (h : a < b) : ¬ b < a := List.lt_asymm h
theorem blt_ne {a b : List UInt8} (h : a < b) : a ≠ b := fun e => blt_irrefl a (by rw [e] at h ⊢; exact h)
theorem blt_total {a b : List UInt8} (h : ¬ a < b) (k : a ≠ b) : b < a := by
  rcases Classical.em (b < a) with h1 | h1
  · exact h1
  · exact absurd (List.le_antisymm (List.not_lt.1 h1) (List.not_lt.1 h)) k

/-! ### rows by rising keys -/
section
variable {α β : Type}
def insK (key : α → List UInt8) (f : α) : List α → List α
  | [] => [f]
  | x :: r => if key f < key x then f :: x :: r else x :: insK key f r
def delK (key : α → List UInt8) (n : List UInt8) (l : List α) : List α := l.filter fun x => decide (key x ≠ n)
def fndK (key : α → List UInt8) (n : List UInt8) (l : List α) : Option α := l.find? fun x => decide (key x = n)
def updK (key : α → List UInt8) (n : List UInt8) (h : α → α) (l : List α) : List α := l.map fun x => if key x = n then h x else x
def RiseK (key : α → List UInt8) (l : List α) : Prop := l.Pairwise fun x y => key x < key y
variable {key : α → List UInt8} {key' : β → List UInt8}

theorem insK_mem {f x : α} : ∀ {l : List α}, x ∈ insK key f l ↔ x = f ∨ x ∈ l
  | [] => by simp [insK]
  | y :: r => by
    unfold insK
    split
    · simp
    · simp [insK_mem (l := r)]
      constructor
      · rintro (h | h | h) <;> simp [h]
      · rintro (h | h | h) <;> simp [h]
theorem insK_length (f : α) : ∀ l : List α, (insK key f l).length = l.length + 1
  | [] => rfl
  | y :: r => by unfold insK; split <;> simp [insK_length f r]
theorem insK_perm (f : α) : ∀ l : List α, (insK key f l).Perm (f :: l)
  | [] => List.Perm.refl _
  | y :: r => by
    unfold insK
    split
    · exact List.Perm.refl _
    · exact ((insK_perm f r).cons y).trans (List.Perm.swap f y r)
theorem insK_rise {f : α} : ∀ {l : List α}, RiseK key l → (∀ x ∈ l, key x ≠ key f) → RiseK key (insK key f l)
  | [], _, _ => by simp [insK, RiseK]
  | y :: r, h, hn => by
    obtain ⟨h1, h2⟩ := List.pairwise_cons.1 h
    unfold insK
    split
    · rename_i hlt
      refine List.pairwise_cons.2 ⟨fun x hx => ?_, h⟩
      rcases List.mem_cons.1 hx with rfl | hx
      · exact hlt
      · exact blt_trans hlt (h1 x hx)
    · rename_i hlt
      refine List.pairwise_cons.2 ⟨fun x hx => ?_, insK_rise h2 (fun x hx => hn x (by simp [hx]))⟩
      rcases insK_mem.1 hx with rfl | hx
      · exact blt_total hlt (fun e => hn y (by simp) e.symm)
      · exact h1 x hx
theorem insK_map {h : α → β} (hk : ∀ x, key' (h x) = key x) (f : α) : ∀ l : List α, (insK key f l).map h = insK key' (h f) (l.map h)
  | [] => rfl
  | y :: r => by
    simp only [insK, List.map_cons, hk]
    split <;> simp [insK_map hk f r]
theorem delK_map {h : α → β} (hk : ∀ x, key' (h x) = key x) (n : List UInt8) (l : List α) : (delK key n l).map h = delK key' n (l.map h) := by
  unfold delK
  rw [List.filter_map]
  congr 1
  apply List.filter_congr
  intro x _
  simp [hk]
theorem fndK_map {h : α → β} (hk : ∀ x, key' (h x) = key x) (n : List UInt8) (l : List α) : fndK key' n (l.map h) = (fndK key n l).map h := by
  unfold fndK
  rw [List.find?_map]
  congr 2
  funext x
  simp [hk]
theorem updK_map {h : α → β} (hk : ∀ x, key' (h x) = key x) (n : List UInt8) (g : α → α) (g' : β → β) (hg : ∀ x, h (g x) = g' (h x)) (l : List α) : (updK key n g l).map h = updK key' n g' (l.map h) := by
  unfold updK
  simp only [List.map_map]
  apply List.map_congr_left
  intro x _
  simp only [Function.comp_apply, hk]
  split <;> simp [hg]
theorem delK_rise {n : List UInt8} {l : List α} (h : RiseK key l) : RiseK key (delK key n l) := List.Pairwise.sublist List.filter_sublist h
theorem updK_rise {n : List UInt8} {g : α → α} (hg : ∀ x, key (g x) = key x) {l : List α} (h : RiseK key l) : RiseK key (updK key n g l) := by
  unfold RiseK updK
  refine List.pairwise_map.2 (h.imp fun {x y} hxy => ?_)
  show key (if key x = n then g x else x) < key (if key y = n then g y else y)
  have h1 : ∀ z, key (if key z = n then g z else z) = key z := fun z => by split <;> simp [hg]
  rw [h1, h1]; exact hxy
theorem fndK_some {n : List UInt8} {l : List α} {f : α} (h : fndK key n l = some f) : f ∈ l ∧ key f = n := by
  have h1 := List.mem_of_find?_eq_some h
  have h2 := List.find?_some h
  exact ⟨h1, by simpa using h2⟩
theorem fndK_none {n : List UInt8} {l : List α} (h : fndK key n l = none) : ∀ x ∈ l, key x ≠ n := by
  intro x hx
  have := List.find?_eq_none.1 h x hx
  simpa using this
theorem rise_inj {l : List α} (h : RiseK key l) {x y : α} (hx : x ∈ l) (hy : y ∈ l) (he : key x = key y) : x = y := by
  induction l with
  | nil => cases hx
  | cons z r ih =>
    obtain ⟨h1, h2⟩ := List.pairwise_cons.1 h
    rcases List.mem_cons.1 hx with e1 | hx' <;> rcases List.mem_cons.1 hy with e2 | hy'
    · rw [e1, e2]
    · subst e1; exact absurd he (blt_ne (h1 y hy'))
    · subst e2; exact absurd he.symm (blt_ne (h1 x hx'))
    · exact ih h2 hx' hy'
theorem fndK_of_mem {l : List α} (h : RiseK key l) {x : α} (hx : x ∈ l) : fndK key (key x) l = some x := by
  cases hf : fndK key (key x) l with
  | none => exact absurd rfl (fndK_none hf x hx)
  | some y =>
    obtain ⟨hy, he⟩ := fndK_some hf
    rw [rise_inj h hy hx he]
theorem delK_none {n : List UInt8} {l : List α} (h : fndK key n l = none) : delK key n l = l := by
  unfold delK
  rw [List.filter_eq_self]
  intro x hx
  simpa using fndK_none h x hx
theorem delK_mem {n : List UInt8} {l : List α} {x : α} : x ∈ delK key n l ↔ x ∈ l ∧ key x ≠ n := by simp [delK]
theorem delK_length {n : List UInt8} {l : List α} (hr : RiseK key l) {f : α} (h : fndK key n l = some f) : (delK key n l).length + 1 = l.length := by
  induction l with
  | nil => simp [fndK] at h
  | cons x r ih =>
    obtain ⟨h1, h2⟩ := List.pairwise_cons.1 hr
    by_cases hx : key x = n
    · have hnone : fndK key n r = none := by
        unfold fndK
        rw [List.find?_eq_none]
        intro y hy
        have := blt_ne (h1 y hy)
        simp [← hx]; exact fun e => this e.symm
      have hd := delK_none hnone
      unfold delK at hd ⊢
      rw [List.filter_cons_of_neg (by simp [hx]), hd]
      simp
    · have hf : fndK key n r = some f := by
        unfold fndK at h ⊢
        rwa [List.find?_cons_of_neg (by simpa using hx)] at h
      have := ih h2 hf
      unfold delK at this ⊢
      rw [List.filter_cons_of_pos (by simpa using hx)]
      simp only [List.length_cons]
      omega
theorem updK_length (n : List UInt8) (g : α → α) (l : List α) : (updK key n g l).length = l.length := by simp [updK]
theorem fndK_upd {n m : List UInt8} {g : α → α} (hg : ∀ x, key (g x) = key x) (l : List α) : fndK key m (updK key n g l) = if m = n then (fndK key n l).map g else fndK key m l := by
  induction l with
  | nil => simp [fndK, updK]
  | cons x r ih =>
    unfold fndK updK at *
    simp only [List.map_cons]
    by_cases hx : key x = n
    · by_cases hm : m = n
      · subst hm
        simp [hx, hg]
      · have : ¬ key (g x) = m := by rw [hg, hx]; exact fun e => hm e.symm
        have h2 : ¬ key x = m := by rw [hx]; exact fun e => hm e.symm
        simp only [hx, if_true]
        rw [List.find?_cons_of_neg (by simpa using this), ih, if_neg hm, if_neg hm, List.find?_cons_of_neg (by simpa using h2)]
    · simp only [hx, if_false]
      by_cases hm : key x = m
      · have hmn : ¬ m = n := by rw [← hm]; exact hx
        rw [List.find?_cons_of_pos (by simpa using hm), if_neg hmn, List.find?_cons_of_pos (by simpa using hm)]
      · rw [List.find?_cons_of_neg (by simpa using hm), ih]
        by_cases hmn : m = n
        · rw [if_pos hmn, if_pos hmn, List.find?_cons_of_neg (by simpa using hx)]
        · rw [if_neg hmn, if_neg hmn, List.find?_cons_of_neg (by simpa using hm)]
theorem fndK_ins {m : List UInt8} {f : α} : ∀ {l : List α}, (∀ x ∈ l, key x ≠ key f) → fndK key m (insK key f l) = if m = key f then some f else fndK key m l
  | [], _ => by
    by_cases h : m = key f
    · simp [fndK, insK, h]
    · simp [fndK, insK, h]; exact fun e => h e.symm
  | x :: r, hn => by
    unfold insK
    have hx := hn x (by simp)
    have ih := fndK_ins (m := m) (f := f) (l := r) (fun y hy => hn y (by simp [hy]))
    unfold fndK at *
    split
    · by_cases h : m = key f
      · rw [List.find?_cons_of_pos (by simp [h]), if_pos h]
      · rw [List.find?_cons_of_neg (by simp; exact fun e => h e.symm), if_neg h]
    · by_cases h : m = key f
      · rw [if_pos h] at ih ⊢
        rw [List.find?_cons_of_neg (by rw [h]; simpa using hx), ih]
      · rw [if_neg h] at ih ⊢
        by_cases h2 : key x = m
        · rw [List.find?_cons_of_pos (by simpa using h2), List.find?_cons_of_pos (by simpa using h2)]
        · rw [List.find?_cons_of_neg (by simpa using h2), List.find?_cons_of_neg (by simpa using h2), ih]
theorem fndK_del {n m : List UInt8} (l : List α) : fndK key m (delK key n l) = if m = n then none else fndK key m l := by
  unfold fndK delK
  rw [List.find?_filter]
  by_cases h : m = n
  · rw [if_pos h, List.find?_eq_none]
    intro x _
    simp; intro h1 h2; exact h1 (h2.trans h)
  · rw [if_neg h]
    congr 1
    funext x
    by_cases h2 : key x = m
    · simp [h2, h]
    · simp [h2]
/-- A row split at a name: how many names lie ahead. -/
def ahead (key : α → List UInt8) (n : List UInt8) (l : List α) : Nat := (l.takeWhile fun x => decide (key x < n)).length
theorem insK_split (f : α) : ∀ l : List α, RiseK key l → (∀ x ∈ l, key x ≠ key f) → insK key f l = l.take (ahead key (key f) l) ++ f :: l.drop (ahead key (key f) l)
  | [], _, _ => rfl
  | x :: r, hr, hn => by
    obtain ⟨h1, h2⟩ := List.pairwise_cons.1 hr
    have ih := insK_split f r h2 (fun y hy => hn y (by simp [hy]))
    unfold insK
    by_cases h : key f < key x
    · have : ¬ key x < key f := blt_asymm h
      simp [ahead, h, this]
    · have h3 : key x < key f := blt_total h (fun e => hn x (by simp) e.symm)
      rw [if_neg h, ih]
      simp [ahead, h3]
theorem ahead_lt {n : List UInt8} : ∀ {l : List α} {i : Nat}, i < ahead key n l → ∃ x, l[i]? = some x ∧ key x < n
  | [], i, hi => by simp [ahead] at hi
  | x :: r, i, hi => by
    by_cases h : key x < n
    · have he : ahead key n (x :: r) = ahead key n r + 1 := by simp [ahead, h]
      cases i with
      | zero => exact ⟨x, rfl, h⟩
      | succ i =>
        obtain ⟨y, hy, hlt⟩ := ahead_lt (n := n) (l := r) (i := i) (by omega)
        exact ⟨y, by simpa using hy, hlt⟩
    · simp [ahead, h] at hi
theorem ahead_at {n : List UInt8} : ∀ {l : List α} {x : α}, l[ahead key n l]? = some x → ¬ key x < n
  | [], x, h => by simp [ahead] at h
  | y :: r, x, h => by
    by_cases hy : key y < n
    · have he : ahead key n (y :: r) = ahead key n r + 1 := by simp [ahead, hy]
      rw [he] at h
      exact ahead_at (by simpa using h)
    · have he : ahead key n (y :: r) = 0 := by simp [ahead, hy]
      rw [he] at h
      simp at h
      subst h; exact hy
theorem ahead_le (n : List UInt8) (l : List α) : ahead key n l ≤ l.length := by
  unfold ahead
  exact (List.takeWhile_sublist _).length_le
theorem ahead_fnd {n : List UInt8} : ∀ {l : List α}, RiseK key l → fndK key n l = (l[ahead key n l]?).bind fun x => if key x = n then some x else none
  | [], _ => rfl
  | x :: r, hr => by
    obtain ⟨h1, h2⟩ := List.pairwise_cons.1 hr
    by_cases hx : key x < n
    · have he : ahead key n (x :: r) = ahead key n r + 1 := by simp [ahead, hx]
      rw [he]
      have := ahead_fnd (n := n) h2
      unfold fndK at *
      rw [List.find?_cons_of_neg (by simpa using blt_ne hx), this]
      rfl
    · have he : ahead key n (x :: r) = 0 := by simp [ahead, hx]
      rw [he]
      simp only [List.getElem?_cons_zero, Option.bind_some]
      by_cases h3 : key x = n
      · simp [fndK, h3]
      · rw [if_neg h3]
        unfold fndK
        rw [List.find?_eq_none]
        intro y hy
        rcases List.mem_cons.1 hy with rfl | hy
        · simpa using h3
        · simp
          intro e
          have := h1 y hy
          rw [e] at this
          exact hx this
theorem delK_split {n : List UInt8} : ∀ {l : List α}, RiseK key l → (fndK key n l).isSome → delK key n l = l.take (ahead key n l) ++ l.drop (ahead key n l + 1)
  | [], _, h => by simp [fndK] at h
  | x :: r, hr, h => by
    obtain ⟨h1, h2⟩ := List.pairwise_cons.1 hr
    by_cases hx : key x < n
    · have he : ahead key n (x :: r) = ahead key n r + 1 := by simp [ahead, hx]
      have hs : (fndK key n r).isSome := by
        unfold fndK at h ⊢
        rwa [List.find?_cons_of_neg (by simpa using blt_ne hx)] at h
      have := delK_split h2 hs
      rw [he]
      unfold delK at *
      rw [List.filter_cons_of_pos (by simpa using blt_ne hx), this]
      rfl
    · have he : ahead key n (x :: r) = 0 := by simp [ahead, hx]
      rw [he]
      by_cases h3 : key x = n
      · have hall : ∀ y ∈ r, key y ≠ n := fun y hy e => by
          have := h1 y hy
          rw [e, h3] at this
          exact blt_irrefl _ this
        unfold delK
        rw [List.filter_cons_of_neg (by simp [h3]), List.filter_eq_self.2 (fun y hy => by simpa using hall y hy)]
        rfl
      · exfalso
        have := ahead_fnd (n := n) hr
        rw [he] at this
        simp [h3] at this
        rw [this] at h
        cases h
theorem updK_at {n : List UInt8} {g : α → α} : ∀ {l : List α} {x : α}, RiseK key l → l[ahead key n l]? = some x → key x = n → updK key n g l = l.set (ahead key n l) (g x)
  | [], x, _, h, _ => by simp at h
  | y :: r, x, hr, h, hk => by
    obtain ⟨h1, h2⟩ := List.pairwise_cons.1 hr
    by_cases hy : key y < n
    · have he : ahead key n (y :: r) = ahead key n r + 1 := by simp [ahead, hy]
      rw [he] at h ⊢
      have := updK_at (g := g) h2 (by simpa using h) hk
      unfold updK at *
      simp only [List.map_cons, List.set_cons_succ, this]
      rw [if_neg (blt_ne hy)]
    · have he : ahead key n (y :: r) = 0 := by simp [ahead, hy]
      rw [he] at h ⊢
      simp at h
      subst h
      have hall : ∀ z ∈ r, key z ≠ n := fun z hz e => by
        have := h1 z hz
        rw [e, hk] at this
        exact blt_irrefl _ this
      unfold updK
      simp only [List.map_cons, hk, if_true, List.set_cons_zero]
      congr 1
      conv => rhs; rw [← List.map_id r]
      apply List.map_congr_left
      intro z hz
      rw [if_neg (hall z hz)]; rfl
end

/-! ### a disk -/
structure AF where
  name : List UInt8
  data : List UInt8
  synced : Nat
structure Dk where
  most : Int
  L : List AF
  fuse : Int
  dead : Bool
abbrev AF.key (f : AF) : List UInt8 := f.name

def nameByte (c : UInt8) : Bool := decide (97 ≤ (c.toNat : Int) ∧ (c.toNat : Int) ≤ 122 ∨ 48 ≤ (c.toNat : Int) ∧ (c.toNat : Int) ≤ 57)
def isName (s : List UInt8) : Bool := decide (1 ≤ s.length ∧ s.length ≤ 24) && s.all nameByte

def sz (L : List AF) : Nat := (L.map (·.data.length)).sum
/-- A call that changes: it takes a step off the fuse first. -/
def spends (s : Dk) (k : Dk → Dk) : Dk × Int :=
  if s.fuse = 0 then ({ s with dead := true }, 7) else (k { s with fuse := if 0 < s.fuse then s.fuse - 1 else s.fuse }, 0)
def newF (n d : List UInt8) : AF := ⟨n, d, 0⟩
def addF (d : List UInt8) (f : AF) : AF := { f with data := f.data ++ d }
def app (s : Dk) (n d : List UInt8) : Dk × Int :=
  if s.dead then (s, 7) else if isName n = false then (s, 3) else
  match fndK AF.key n s.L with
  | none => if 40 ≤ s.L.length then (s, 11) else if s.most - sz s.L < d.length then (s, 6) else spends s fun s => { s with L := insK AF.key (newF n d) s.L }
  | some _ => if s.most - sz s.L < d.length then (s, 6) else spends s fun s => { s with L := updK AF.key n (addF d) s.L }
def need (s : Dk) (n : List UInt8) (k : AF → Dk × Int) : Dk × Int :=
  if s.dead then (s, 7) else match fndK AF.key n s.L with | none => (s, 4) | some f => k f
def syncF (f : AF) : AF := { f with synced := f.data.length }
def syn (s : Dk) (n : List UInt8) : Dk × Int := need s n fun _ => spends s fun s => { s with L := updK AF.key n syncF s.L }
def cutF (k : Nat) (f : AF) : AF := { f with data := f.data.take k, synced := min f.synced k }
def trunc (s : Dk) (n : List UInt8) (k : Int) : Dk × Int :=
  need s n fun f => if k < 0 ∨ (f.data.length : Int) < k then (s, 2) else spends s fun s => { s with L := updK AF.key n (cutF k.toNat) s.L }
def ren (s : Dk) (n t : List UInt8) : Dk × Int :=
  need s n fun f => if isName t = false then (s, 3) else spends s fun s => { s with L := insK AF.key { f with name := t } (delK AF.key t (delK AF.key n s.L)) }
def dele (s : Dk) (n : List UInt8) : Dk × Int := need s n fun _ => spends s fun s => { s with L := delK AF.key n s.L }
def rd (s : Dk) (n : List UInt8) : List UInt8 × Int := if s.dead then ([], 7) else match fndK AF.key n s.L with | none => ([], 4) | some f => (f.data, 0)
def setFuse (s : Dk) (n : Int) : Dk := { s with fuse := max n (-1) }
def noiseByte (n : Int) : UInt8 := UInt8.ofNat (n % 256).toNat
def crF (f : AF) (keep noise : Int) : AF :=
  let kept := min (max keep 0).toNat (f.data.length - f.synced)
  let e := f.synced + kept
  { f with data := if kept = 0 then f.data.take e else (f.data.take e).set (e - 1) (f.data.getD (e - 1) 0 ^^^ noiseByte noise), synced := e }
def crL : List AF → List Int → List Int → List AF
  | [], _, _ => []
  | f :: r, ks, ns => if f.synced < f.data.length then crF f (ks.headD 0) (ns.headD 0) :: crL r ks.tail ns.tail else f :: crL r ks ns
def crash (s : Dk) (ks ns : List Int) : Dk := { s with L := crL s.L ks ns, fuse := -1, dead := false }

/-- What stays true. -/
structure Dk.Ok (s : Dk) : Prop where
  rise : RiseK AF.key s.L
  names : ∀ f ∈ s.L, isName f.name = true
  sync : ∀ f ∈ s.L, f.synced ≤ f.data.length
  many : s.L.length ≤ 40
  room : (sz s.L : Int) ≤ s.most
  most : s.most ≤ 10000000
  fuse : -1 ≤ s.fuse ∧ s.fuse ≤ 9223372036854775807

theorem sz_mem {f : AF} : ∀ {L : List AF}, f ∈ L → f.data.length ≤ sz L
  | x :: r, h => by
    simp only [sz, List.map_cons, List.sum_cons]
    rcases List.mem_cons.1 h with rfl | h
    · omega
    · have := sz_mem h; unfold sz at this; omega
theorem sz_cons (f : AF) (L : List AF) : sz (f :: L) = f.data.length + sz L := by simp [sz]
theorem sz_ins (f : AF) (L : List AF) : sz (insK AF.key f L) = f.data.length + sz L := by
  unfold sz
  rw [((insK_perm (key := AF.key) f L).map _).sum_nat]
  simp
theorem sz_upd_le {n : List UInt8} {g : AF → AF} {c : Nat} (hg : ∀ f, (g f).data.length ≤ f.data.length + c) : ∀ {L : List AF}, RiseK AF.key L → sz (updK AF.key n g L) ≤ sz L + c
  | [], _ => by simp [updK, sz]
  | x :: r, h => by
    obtain ⟨h1, h2⟩ := List.pairwise_cons.1 h
    simp only [updK, List.map_cons]
    by_cases hx : AF.key x = n
    · rw [if_pos hx, sz_cons, sz_cons]
      have hr : r.map (fun x => if AF.key x = n then g x else x) = r := by
        conv => rhs; rw [← List.map_id r]
        apply List.map_congr_left
        intro y hy
        rw [if_neg]
        · rfl
        · intro e
          have := h1 y hy
          rw [hx, e] at this
          exact blt_irrefl _ this
      rw [hr]
      have := hg x
      omega
    · rw [if_neg hx, sz_cons, sz_cons]
      have := sz_upd_le (n := n) hg h2
      unfold updK at this
      omega
theorem sz_del (n : List UInt8) (L : List AF) : sz (delK AF.key n L) ≤ sz L := by
  induction L with
  | nil => simp [delK, sz]
  | cons x r ih =>
    unfold delK at *
    by_cases h : AF.key x = n
    · rw [List.filter_cons_of_neg (by simp [h]), sz_cons]; omega
    · rw [List.filter_cons_of_pos (by simpa using h), sz_cons, sz_cons]; omega
theorem sz_del_fnd {n : List UInt8} {f : AF} : ∀ {L : List AF}, RiseK AF.key L → fndK AF.key n L = some f → sz (delK AF.key n L) + f.data.length = sz L
  | [], _, h => by simp [fndK] at h
  | x :: r, hr, h => by
    obtain ⟨h1, h2⟩ := List.pairwise_cons.1 hr
    by_cases hx : AF.key x = n
    · have hf : f = x := by
        unfold fndK at h
        rw [List.find?_cons_of_pos (by simpa using hx)] at h
        exact (Option.some.inj h).symm
      subst hf
      have hall : ∀ y ∈ r, AF.key y ≠ n := fun y hy e => by
        have := h1 y hy
        rw [e, hx] at this
        exact blt_irrefl _ this
      unfold delK
      rw [List.filter_cons_of_neg (by simp [hx]), List.filter_eq_self.2 (fun y hy => by simpa using hall y hy), sz_cons]; omega
    · have hf : fndK AF.key n r = some f := by
        unfold fndK at h ⊢
        rwa [List.find?_cons_of_neg (by simpa using hx)] at h
      have := sz_del_fnd h2 hf
      unfold delK at this ⊢
      rw [List.filter_cons_of_pos (by simpa using hx), sz_cons, sz_cons]; omega

theorem crF_len (f : AF) (k n : Int) (h : f.synced ≤ f.data.length) : (crF f k n).data.length = (crF f k n).synced ∧ (crF f k n).synced ≤ f.data.length ∧ f.synced ≤ (crF f k n).synced := by
  unfold crF
  simp only
  have : min (max k 0).toNat (f.data.length - f.synced) ≤ f.data.length - f.synced := Nat.min_le_right _ _
  generalize min (max k 0).toNat (f.data.length - f.synced) = t at *
  refine ⟨?_, by omega, by omega⟩
  split <;> simp <;> omega
theorem crF_name (f : AF) (k n : Int) : (crF f k n).name = f.name := rfl
theorem crL_names : ∀ (L : List AF) (ks ns : List Int), (crL L ks ns).map AF.name = L.map AF.name
  | [], _, _ => rfl
  | f :: r, ks, ns => by
    unfold crL
    split <;> simp [crL_names r, crF_name]
theorem crL_sz : ∀ (L : List AF) (ks ns : List Int), (∀ f ∈ L, f.synced ≤ f.data.length) → sz (crL L ks ns) ≤ sz L
  | [], _, _, _ => Nat.le_refl _
  | f :: r, ks, ns, h => by
    unfold crL
    split
    · rw [sz_cons, sz_cons]
      have := crL_sz r ks.tail ns.tail (fun g hg => h g (by simp [hg]))
      have h2 := crF_len f (ks.headD 0) (ns.headD 0) (h f (by simp))
      omega
    · rw [sz_cons, sz_cons]
      have := crL_sz r ks ns (fun g hg => h g (by simp [hg]))
      omega
theorem crL_synced : ∀ (L : List AF) (ks ns : List Int), (∀ f ∈ L, f.synced ≤ f.data.length) → ∀ f ∈ crL L ks ns, f.synced = f.data.length
  | [], _, _, _ => by simp [crL]
  | f :: r, ks, ns, h => by
    unfold crL
    have hf := h f (by simp)
    split
    · intro g hg
      rcases List.mem_cons.1 hg with rfl | hg
      · exact (crF_len f _ _ hf).1.symm
      · exact crL_synced r _ _ (fun g hg => h g (by simp [hg])) g hg
    · intro g hg
      rcases List.mem_cons.1 hg with rfl | hg
      · omega
      · exact crL_synced r _ _ (fun g hg => h g (by simp [hg])) g hg
theorem rise_names {L M : List AF} (h : L.map AF.name = M.map AF.name) (hr : RiseK AF.key L) : RiseK AF.key M := by
  unfold RiseK at *
  have h1 : (L.map AF.name).Pairwise (· < ·) := List.pairwise_map.2 hr
  rw [h] at h1
  exact List.pairwise_map.1 h1

/-! ### each call keeps it -/
theorem Ok_spends {s : Dk} (h : s.Ok) {k : Dk → Dk} (hk : ∀ s' : Dk, s'.Ok → s'.L = s.L → s'.most = s.most → (k s').Ok) : (spends s k).1.Ok := by
  unfold spends
  split
  · exact ⟨h.rise, h.names, h.sync, h.many, h.room, h.most, h.fuse⟩
  · refine hk _ ⟨h.rise, h.names, h.sync, h.many, h.room, h.most, ?_⟩ rfl rfl
    have := h.fuse
    show -1 ≤ (if 0 < s.fuse then s.fuse - 1 else s.fuse) ∧ (if 0 < s.fuse then s.fuse - 1 else s.fuse) ≤ _
    split <;> omega
theorem Ok_need {s : Dk} (h : s.Ok) {n : List UInt8} {k : AF → Dk × Int} (hk : ∀ f, fndK AF.key n s.L = some f → (k f).1.Ok) : (need s n k).1.Ok := by
  unfold need
  split
  · exact h
  · cases hf : fndK AF.key n s.L with
    | none => exact h
    | some f => exact hk f hf
theorem upd_mem {n : List UInt8} {g : AF → AF} {L : List AF} {f : AF} (h : f ∈ updK AF.key n g L) : f ∈ L ∨ ∃ x ∈ L, AF.key x = n ∧ f = g x := by
  unfold updK at h
  obtain ⟨x, hx, rfl⟩ := List.mem_map.1 h
  by_cases hn : AF.key x = n
  · exact .inr ⟨x, hx, hn, by rw [if_pos hn]⟩
  · exact .inl (by rw [if_neg hn]; exact hx)
theorem Ok_upd {s : Dk} (h : s.Ok) {n : List UInt8} {g : AF → AF} (c : Nat) (h1 : ∀ f, (g f).name = f.name) (h2 : ∀ f, f.synced ≤ f.data.length → (g f).synced ≤ (g f).data.length) (h3 : ∀ f, (g f).data.length ≤ f.data.length + c)
    (h4 : (sz s.L : Int) + c ≤ s.most) : ({ s with L := updK AF.key n g s.L } : Dk).Ok := by
  refine ⟨updK_rise h1 h.rise, ?_, ?_, ?_, ?_, h.most, h.fuse⟩
  · intro f hf
    rcases upd_mem hf with hf | ⟨x, hx, _, rfl⟩
    · exact h.names f hf
    · rw [h1]; exact h.names x hx
  · intro f hf
    rcases upd_mem hf with hf | ⟨x, hx, _, rfl⟩
    · exact h.sync f hf
    · exact h2 x (h.sync x hx)
  · show (updK _ _ _ _).length ≤ 40; rw [updK_length]; exact h.many
  · have := sz_upd_le (n := n) h3 h.rise
    show (sz (updK _ _ _ _) : Int) ≤ s.most
    omega
theorem Ok_ins {s : Dk} (h : s.Ok) {f : AF} (hn : isName f.name = true) (hs : f.synced ≤ f.data.length) (hx : ∀ x ∈ s.L, x.name ≠ f.name) (hm : s.L.length < 40) (hr : (sz s.L : Int) + f.data.length ≤ s.most) : ({ s with L := insK AF.key f s.L } : Dk).Ok := by
  refine ⟨insK_rise h.rise hx, ?_, ?_, ?_, ?_, h.most, h.fuse⟩
  · intro g hg
    rcases insK_mem.1 hg with rfl | hg
    · exact hn
    · exact h.names g hg
  · intro g hg
    rcases insK_mem.1 hg with rfl | hg
    · exact hs
    · exact h.sync g hg
  · show (insK _ _ _).length ≤ 40; rw [insK_length]; omega
  · show (sz (insK _ _ _) : Int) ≤ s.most
    rw [sz_ins]; omega
theorem Ok_del {s : Dk} (h : s.Ok) (n : List UInt8) : ({ s with L := delK AF.key n s.L } : Dk).Ok := by
  refine ⟨delK_rise h.rise, fun f hf => h.names f (delK_mem.1 hf).1, fun f hf => h.sync f (delK_mem.1 hf).1, ?_, ?_, h.most, h.fuse⟩
  · have : (delK AF.key n s.L).length ≤ s.L.length := List.length_filter_le _ _
    have := h.many
    show (delK _ _ _).length ≤ 40
    omega
  · have := sz_del n s.L
    have := h.room
    show (sz (delK _ _ _) : Int) ≤ s.most
    omega

theorem Ok_app {s : Dk} (h : s.Ok) (n d : List UInt8) : (app s n d).1.Ok := by
  unfold app
  split
  · exact h
  · split
    · exact h
    · rename_i hn
      have hn : isName n = true := by simpa using hn
      cases hf : fndK AF.key n s.L with
      | none =>
        simp only
        split
        · exact h
        · split
          · exact h
          · refine Ok_spends h fun s' h' hL hm => ?_
            refine Ok_ins h' hn (Nat.zero_le _) ?_ (by rw [hL]; omega) ?_
            · rw [hL]; exact fndK_none hf
            · rw [hL, hm]; show _ + (d.length : Int) ≤ _; omega
      | some f =>
        simp only
        split
        · exact h
        · refine Ok_spends h fun s' h' hL hm => ?_
          refine Ok_upd h' d.length (fun _ => rfl) (fun f hf => by simp [addF]; omega) (fun f => by simp [addF]) ?_
          rw [hL, hm]; omega
theorem Ok_syn {s : Dk} (h : s.Ok) (n : List UInt8) : (syn s n).1.Ok :=
  Ok_need h fun f hf => Ok_spends h fun s' h' hL hm => Ok_upd h' 0 (fun _ => rfl) (fun f hf => Nat.le_refl _) (fun f => Nat.le_refl _) (by have := h'.room; omega)
theorem Ok_trunc {s : Dk} (h : s.Ok) (n : List UInt8) (k : Int) : (trunc s n k).1.Ok :=
  Ok_need h fun f hf => by
    split
    · exact h
    · refine Ok_spends h fun s' h' hL hm => Ok_upd h' 0 (fun _ => rfl) (fun f hf => by simp [cutF]; omega) (fun f => by simp [cutF]; omega) (by have := h'.room; omega)
theorem Ok_dele {s : Dk} (h : s.Ok) (n : List UInt8) : (dele s n).1.Ok :=
  Ok_need h fun f hf => Ok_spends h fun s' h' hL hm => Ok_del h' n
theorem Ok_ren {s : Dk} (h : s.Ok) (n t : List UInt8) : (ren s n t).1.Ok :=
  Ok_need h fun f hf => by
    split
    · exact h
    · rename_i hn
      have hn : isName t = true := by simpa using hn
      refine Ok_spends h fun s' h' hL hm => ?_
      have h1 : ({ s' with L := delK AF.key t (delK AF.key n s'.L) } : Dk).Ok := Ok_del (Ok_del h' n) t
      rw [← hL] at hf
      have hm1 := fndK_some hf
      have hl := delK_length h'.rise hf
      have hl2 : (delK AF.key t (delK AF.key n s'.L)).length ≤ (delK AF.key n s'.L).length := List.length_filter_le _ _
      have hz1 := sz_del t (delK AF.key n s'.L)
      have hz2 := sz_del_fnd h'.rise hf
      have := h'.room
      have := h'.many
      refine Ok_ins (s := { s' with L := delK AF.key t (delK AF.key n s'.L) }) h1 (f := { f with name := t }) hn (h'.sync f hm1.1) ?_ ?_ ?_
      · intro x hx
        exact (delK_mem.1 hx).2
      · show (delK _ _ _).length < 40
        omega
      · show (sz (delK _ _ _) : Int) + (f.data.length : Int) ≤ s'.most
        omega
theorem Ok_fuse {s : Dk} (h : s.Ok) (n : Int) (hn : n ≤ 9223372036854775807) : (setFuse s n).Ok :=
  ⟨h.rise, h.names, h.sync, h.many, h.room, h.most, by simp only [setFuse]; omega⟩
theorem Ok_crash {s : Dk} (h : s.Ok) (ks ns : List Int) : (crash s ks ns).Ok := by
  refine ⟨rise_names (crL_names s.L ks ns).symm h.rise, ?_, ?_, ?_, ?_, h.most, by simp [crash]⟩
  · intro f hf
    have hf : f ∈ crL s.L ks ns := hf
    have : f.name ∈ (crL s.L ks ns).map AF.name := List.mem_map.2 ⟨f, hf, rfl⟩
    rw [crL_names] at this
    obtain ⟨g, hg, he⟩ := List.mem_map.1 this
    rw [← he]; exact h.names g hg
  · intro f hf
    exact Nat.le_of_eq (crL_synced s.L ks ns h.sync f hf)
  · have := congrArg List.length (crL_names s.L ks ns)
    simp at this
    show (crL _ _ _).length ≤ 40
    rw [this]; exact h.many
  · have := crL_sz s.L ks ns h.sync
    have := h.room
    show (sz (crL _ _ _) : Int) ≤ s.most
    omega

/-! ### an act -/
structure Ac where
  op : Int
  n : Int
  name : ByteArray
  to : ByteArray
  data : ByteArray
  keep : List Int
  noise : List Int
def pickZ (c n : Int) : Int := (if c < 0 then -(c + 1) else c) % n
def act (s : Dk) (a : Ac) : Dk × List UInt8 × Int :=
  let o := pickZ a.op 11
  let nm := a.name.data.toList
  if o = 4 then ((syn s nm).1, [], (syn s nm).2)
  else if o = 5 then ((trunc s nm a.n).1, [], (trunc s nm a.n).2)
  else if o = 6 then ((ren s nm a.to.data.toList).1, [], (ren s nm a.to.data.toList).2)
  else if o = 7 then ((dele s nm).1, [], (dele s nm).2)
  else if o = 8 then (s, (rd s nm).1, (rd s nm).2)
  else if o = 9 then (setFuse s a.n, [], 0)
  else if o = 10 then (crash s a.keep a.noise, [], 0)
  else ((app s nm a.data.data.toList).1, [], (app s nm a.data.data.toList).2)
theorem Ok_act {s : Dk} (h : s.Ok) (a : Ac) (hn : a.n ≤ 9223372036854775807) : (act s a).1.Ok := by
  unfold act
  simp only
  repeat' split
  · exact Ok_syn h _
  · exact Ok_trunc h _ _
  · exact Ok_ren h _ _
  · exact Ok_dele h _
  · exact h
  · exact Ok_fuse h _ hn
  · exact Ok_crash h _ _
  · exact Ok_app h _ _
def acts (s : Dk) (l : List Ac) : Dk := l.foldl (fun s a => (act s a).1) s
def newD (most : Int) : Dk := ⟨most, [], -1, false⟩
theorem Ok_new {m : Int} (h0 : 0 ≤ m) (h1 : m ≤ 10000000) : (newD m).Ok := ⟨List.Pairwise.nil, by simp [newD], by simp [newD], by simp [newD], by simpa [newD, sz] using h0, h1, by simp [newD]⟩
theorem Ok_acts : ∀ (l : List Ac) {s : Dk}, s.Ok → (∀ a ∈ l, a.n ≤ 9223372036854775807) → (acts s l).Ok
  | [], s, h, _ => h
  | a :: l, s, h, hn => Ok_acts l (Ok_act h a (hn a (by simp))) (fun b hb => hn b (by simp [hb]))
end Go.Proofs.YtpcafkinpkepcaaGreatDoor

