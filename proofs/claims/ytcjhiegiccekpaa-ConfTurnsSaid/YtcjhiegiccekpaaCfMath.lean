/-
  LAYER 9 (conf): rows of voters, majorities, what is agreed: mathematics of lists.
-/
import Derived.Test.YtcjhiegiccekpaaGRis0
import Derived.Test.YtcjhiegiccekpaaG0
namespace Go.Proofs.Ytcjhiegiccekpaa
set_option linter.unusedVariables false
set_option maxRecDepth 100000

def rightC (l : List Int) : Bool := risingF 0 l && decide (3 ≤ l.length) && decide (l.length ≤ 7)
def hasC (l : List Int) (x : Int) : Bool := decide (x ∈ l)
/-- How many of l occur in m. -/
def comC (l m : List Int) : Nat := l.countP (hasC m)
def mostC (l yes : List Int) : Bool := decide (l.length < 2 * comC l yes)
def withC (l : List Int) (x : Int) : List Int := if x ∈ l then l else l.takeWhile (fun y => decide (y ≤ x)) ++ x :: l.dropWhile (fun y => decide (y ≤ x))
def withoutC (l : List Int) (x : Int) : List Int := l.filter (fun y => decide (y ≠ x))
def nextC (l m : List Int) : Bool := rightC l && rightC m && ((decide (m.length = l.length + 1) && decide (comC l m = l.length)) || (decide (m.length + 1 = l.length) && decide (comC l m = m.length)))
def geC (ms : List Int) (x : Int) : Nat := ms.countP (fun y => decide (x ≤ y))
def gtC (ms : List Int) (x : Int) : Nat := ms.countP (fun y => decide (x < y))
/-- Have more than half x, or more? -/
def agrOk (ms : List Int) (x : Int) : Bool := decide (ms.length < 2 * geC ms x)
def bestC : Option Int → List Int → Option Int
  | o, [] => o
  | none, x :: r => bestC (some x) r
  | some b, x :: r => bestC (some (if b < x then x else b)) r
def agreedC (ms : List Int) : Int := (bestC none (ms.filter (agrOk ms))).getD 0
/-- What Agreed is. -/
structure Agr (ms : List Int) (n : Int) : Prop where
  mem : n ∈ ms
  least : ms.length < 2 * geC ms n
  above : 2 * gtC ms n ≤ ms.length
theorem countP_le {p q : Int → Bool} : ∀ (l : List Int), (∀ x ∈ l, p x = true → q x = true) → l.countP p ≤ l.countP q
  | [], h => Nat.le_refl _
  | x :: r, h => by
    have ih := countP_le (p := p) (q := q) r (fun y hy => h y (List.mem_cons_of_mem _ hy))
    have hx := h x (List.mem_cons_self ..)
    rw [List.countP_cons, List.countP_cons]
    by_cases hp : p x = true
    · rw [if_pos hp, if_pos (hx hp)]; omega
    · rw [if_neg hp]; split <;> omega
theorem agr_unique {ms : List Int} {n m : Int} (h : Agr ms n) (k : Agr ms m) : n = m := by
  have key : ∀ a b : Int, Agr ms a → Agr ms b → ¬ a < b := fun a b ha hb hlt => by
    have h1 := hb.least
    have h2 := ha.above
    have h3 : geC ms b ≤ gtC ms a := countP_le ms (fun x hx hp => by
      simp only [decide_eq_true_eq] at hp ⊢
      omega)
    omega
  have h1 := key n m h k
  have h2 := key m n k h
  omega
theorem min_of {p : Int → Prop} : ∀ (l : List Int), (∃ x ∈ l, p x) → ∃ m ∈ l, p m ∧ ∀ y ∈ l, p y → m ≤ y
  | [], h => by obtain ⟨x, hx, _⟩ := h; cases hx
  | x :: r, h => by
    by_cases hr : ∃ y ∈ r, p y
    · obtain ⟨m, hm, hpm, hmin⟩ := min_of r hr
      by_cases hx : p x
      · by_cases hxm : x ≤ m
        · exact ⟨x, List.mem_cons_self .., hx, fun y hy hpy => by
            rcases List.mem_cons.1 hy with e | e
            · omega
            · have := hmin y e hpy; omega⟩
        · exact ⟨m, List.mem_cons_of_mem _ hm, hpm, fun y hy hpy => by
            rcases List.mem_cons.1 hy with e | e
            · omega
            · exact hmin y e hpy⟩
      · exact ⟨m, List.mem_cons_of_mem _ hm, hpm, fun y hy hpy => by
          rcases List.mem_cons.1 hy with e | e
          · subst e; exact absurd hpy hx
          · exact hmin y e hpy⟩
    · obtain ⟨y, hy, hpy⟩ := h
      rcases List.mem_cons.1 hy with e | e
      · subst e
        exact ⟨y, List.mem_cons_self .., hpy, fun z hz hpz => by
          rcases List.mem_cons.1 hz with e | e
          · omega
          · exact absurd ⟨z, e, hpz⟩ hr⟩
      · exact absurd ⟨y, e, hpy⟩ hr
theorem bestC_some : ∀ (l : List Int) (b : Int), ∃ m, bestC (some b) l = some m ∧ b ≤ m ∧ (m = b ∨ m ∈ l) ∧ ∀ y ∈ l, y ≤ m
  | [], b => ⟨b, rfl, Int.le_refl _, .inl rfl, fun y hy => by cases hy⟩
  | x :: r, b => by
    obtain ⟨m, h1, h2, h3, h4⟩ := bestC_some r (if b < x then x else b)
    refine ⟨m, h1, ?_, ?_, fun y hy => ?_⟩
    · split at h2 <;> omega
    · rcases h3 with h3 | h3
      · split at h3
        · exact .inr (by rw [h3]; exact List.mem_cons_self ..)
        · exact .inl h3
      · exact .inr (List.mem_cons_of_mem _ h3)
    · rcases List.mem_cons.1 hy with e | e
      · subst e; split at h2 <;> omega
      · exact h4 y e
theorem bestC_none {l : List Int} (h : l ≠ []) : ∃ m, bestC none l = some m ∧ m ∈ l ∧ ∀ y ∈ l, y ≤ m := by
  cases l with
  | nil => exact absurd rfl h
  | cons x r =>
    obtain ⟨m, h1, h2, h3, h4⟩ := bestC_some r x
    refine ⟨m, h1, ?_, fun y hy => ?_⟩
    · rcases h3 with e | e
      · rw [e]; exact List.mem_cons_self ..
      · exact List.mem_cons_of_mem _ e
    · rcases List.mem_cons.1 hy with e | e
      · subst e; exact h2
      · exact h4 y e
theorem agreed_is {ms : List Int} (h : ms ≠ []) : Agr ms (agreedC ms) := by
  have hlen : 0 < ms.length := List.length_pos_iff.2 h
  -- the least of all is one that all have
  obtain ⟨x0, hx0⟩ : ∃ x, x ∈ ms := ⟨ms.head h, List.head_mem h⟩
  obtain ⟨m0, hm0, -, hmin⟩ := min_of (p := fun _ => True) ms ⟨x0, hx0, trivial⟩
  have hge : geC ms m0 = ms.length := List.countP_eq_length.2 (fun y hy => by simpa using hmin y hy trivial)
  have hok : m0 ∈ ms.filter (agrOk ms) := List.mem_filter.2 ⟨hm0, by unfold agrOk; rw [hge]; simp; omega⟩
  obtain ⟨n, hn, hmem, hmax⟩ := bestC_none (l := ms.filter (agrOk ms)) (fun e => by rw [e] at hok; cases hok)
  have ha : agreedC ms = n := by unfold agreedC; rw [hn]; rfl
  rw [ha]
  obtain ⟨h1, h2⟩ := List.mem_filter.1 hmem
  have h3 : ms.length < 2 * geC ms n := by simpa [agrOk] using h2
  refine ⟨h1, h3, ?_⟩
  rcases Nat.lt_or_ge ms.length (2 * gtC ms n) with hgt | hgt
  · exfalso
    have hpos : 0 < gtC ms n := by omega
    obtain ⟨y, hy, hyp⟩ := List.countP_pos_iff.1 hpos
    obtain ⟨m, hm, hpm, hmin2⟩ := min_of (p := fun y => n < y) ms ⟨y, hy, by simpa using hyp⟩
    have hle : gtC ms n ≤ geC ms m := countP_le ms (fun z hz hp => by
      simp only [decide_eq_true_eq] at hp ⊢
      exact hmin2 z hz hp)
    have := hmax m (List.mem_filter.2 ⟨hm, by unfold agrOk; simp; omega⟩)
    omega
  · exact hgt
theorem agreed_eq {ms : List Int} {n : Int} (h : Agr ms n) : agreedC ms = n := agr_unique (agreed_is (fun e => by have := h.mem; rw [e] at this; cases this)) h
/-- More of one never makes it less. -/
theorem agreed_more {ms os : List Int} (hm : ms ≠ []) (hl : os.length = ms.length) (h : geC ms (agreedC ms) ≤ geC os (agreedC ms)) : agreedC ms ≤ agreedC os := by
  have ho : os ≠ [] := fun e => hm (List.length_eq_zero_iff.1 (by rw [← hl, e]; rfl))
  have h1 := agreed_is hm
  have h2 := agreed_is ho
  rcases Int.lt_or_le (agreedC os) (agreedC ms) with hlt | hle
  · exfalso
    have h3 : geC os (agreedC ms) ≤ gtC os (agreedC os) := countP_le os (fun x hx hp => by
      simp only [decide_eq_true_eq] at hp ⊢
      omega)
    have := h1.least
    have := h2.above
    omega
  · exact hle
/-! ### majorities meet -/
theorem pigeon {f g : Int → Bool} : ∀ (l : List Int), l.length < l.countP f + l.countP g → ∃ x ∈ l, f x = true ∧ g x = true
  | [], h => by simp at h
  | x :: r, h => by
    rw [List.countP_cons, List.countP_cons, List.length_cons] at h
    by_cases hf : f x = true
    · by_cases hg : g x = true
      · exact ⟨x, List.mem_cons_self .., hf, hg⟩
      · rw [if_pos hf, if_neg hg] at h
        obtain ⟨y, hy, h1⟩ := pigeon (f := f) (g := g) r (by omega)
        exact ⟨y, List.mem_cons_of_mem _ hy, h1⟩
    · rw [if_neg hf] at h
      obtain ⟨y, hy, h1⟩ := pigeon (f := f) (g := g) r (by split at h <;> omega)
      exact ⟨y, List.mem_cons_of_mem _ hy, h1⟩
def meetC (l a b : List Int) : Bool := l.any (fun x => hasC a x && hasC b x)
theorem meetC_true {l a b : List Int} : meetC l a b = true ↔ ∃ x ∈ l, hasC a x = true ∧ hasC b x = true := by
  unfold meetC
  simp [List.any_eq_true]
theorem most_meet {l a b : List Int} (h1 : mostC l a = true) (h2 : mostC l b = true) : meetC l a b = true := by
  unfold mostC comC at h1 h2
  simp only [decide_eq_true_eq] at h1 h2
  exact meetC_true.2 (pigeon l (by omega))
/-- m has the node x beside l's. -/
structure OneMore (l m : List Int) (x : Int) : Prop where
  cnt : ∀ f : Int → Bool, m.countP f = l.countP f + (if f x = true then 1 else 0)
  len : m.length = l.length + 1
  mem : ∀ y, y ∈ m ↔ y = x ∨ y ∈ l
theorem one_meet {l m a b : List Int} {x : Int} (h : OneMore l m x) (h1 : mostC l a = true) (h2 : mostC m b = true) : meetC l a b = true ∨ meetC m a b = true := by
  unfold mostC comC at h1 h2
  simp only [decide_eq_true_eq] at h1 h2
  have ha := h.cnt (hasC a)
  have hb := h.cnt (hasC b)
  have hl := h.len
  by_cases hx : hasC a x = true ∧ hasC b x = true
  · exact .inr (meetC_true.2 ⟨x, (h.mem x).2 (.inl rfl), hx⟩)
  · refine .inl (meetC_true.2 (pigeon l ?_))
    by_cases hbx : hasC b x = true
    · rw [if_pos hbx] at hb
      have : ¬ hasC a x = true := fun e => hx ⟨e, hbx⟩
      omega
    · rw [if_neg hbx] at hb
      omega
theorem one_meet' {l m a b : List Int} {x : Int} (h : OneMore m l x) (h1 : mostC l a = true) (h2 : mostC m b = true) : meetC l a b = true ∨ meetC m a b = true := by
  unfold mostC comC at h1 h2
  simp only [decide_eq_true_eq] at h1 h2
  have ha := h.cnt (hasC a)
  have hb := h.cnt (hasC b)
  have hl := h.len
  by_cases hx : hasC a x = true ∧ hasC b x = true
  · exact .inl (meetC_true.2 ⟨x, (h.mem x).2 (.inl rfl), hx⟩)
  · by_cases hax : hasC a x = true
    · rw [if_pos hax] at ha
      refine .inl (meetC_true.2 (pigeon l ?_))
      omega
    · rw [if_neg hax] at ha
      refine .inr (meetC_true.2 (pigeon m ?_))
      omega
/-! ### rows that rise -/
abbrev Inc (l : List Int) : Prop := l.Pairwise (· < ·)
theorem rising_inc : ∀ (l : List Int) (b : Int), risingF b l = true → Inc l ∧ ∀ x ∈ l, b < x
  | [], b, h => ⟨List.Pairwise.nil, fun x hx => by cases hx⟩
  | v :: r, b, h => by
    unfold risingF at h
    simp only [Bool.and_eq_true, decide_eq_true_eq] at h
    obtain ⟨h1, h2⟩ := rising_inc r v h.2
    refine ⟨List.Pairwise.cons h2 h1, fun x hx => ?_⟩
    rcases List.mem_cons.1 hx with e | e
    · omega
    · have := h2 x e; omega
theorem right_inc {l : List Int} (h : rightC l = true) : Inc l := by
  unfold rightC at h
  simp only [Bool.and_eq_true] at h
  exact (rising_inc l 0 h.1.1).1
theorem with_in {l : List Int} {x : Int} (h : x ∈ l) : withC l x = l := by unfold withC; rw [if_pos h]
/-- A node put into a row that rises. -/
theorem with_cons_lt {v x : Int} {r : List Int} (h : v < x) : withC (v :: r) x = v :: withC r x := by
  unfold withC
  by_cases hx : x ∈ r
  · rw [if_pos (List.mem_cons_of_mem _ hx), if_pos hx]
  · rw [if_neg (fun e => by rcases List.mem_cons.1 e with e | e; omega; exact hx e), if_neg hx, List.takeWhile_cons, List.dropWhile_cons, if_pos (by simp; omega), if_pos (by simp; omega)]
    rfl
theorem with_cons_gt {v x : Int} {r : List Int} (h : x < v) (hi : Inc (v :: r)) : withC (v :: r) x = x :: v :: r := by
  have hn : x ∉ v :: r := fun e => by
    rcases List.mem_cons.1 e with e | e
    · omega
    · have := (List.pairwise_cons.1 hi).1 x e; omega
  unfold withC
  rw [if_neg hn, List.takeWhile_cons, List.dropWhile_cons, if_neg (by simp; omega), if_neg (by simp; omega)]
  rfl
theorem with_one : ∀ (l : List Int) (x : Int), Inc l → x ∉ l → OneMore l (withC l x) x ∧ Inc (withC l x) ∧ withoutC (withC l x) x = l
  | [], x, h, hx => ⟨⟨fun f => by simp [withC, List.countP_cons], rfl, fun y => by simp [withC]⟩, by simp [withC, Inc], by simp [withC, withoutC]⟩
  | v :: r, x, h, hx => by
    obtain ⟨h1, h2⟩ := List.pairwise_cons.1 h
    have hvx : v ≠ x := fun e => hx (by rw [e]; exact List.mem_cons_self ..)
    have hxr : x ∉ r := fun e => hx (List.mem_cons_of_mem _ e)
    by_cases hlt : v < x
    · obtain ⟨o, i, w⟩ := with_one r x h2 hxr
      rw [with_cons_lt hlt]
      refine ⟨⟨fun f => by rw [List.countP_cons, List.countP_cons, o.cnt]; omega, by rw [List.length_cons, o.len, List.length_cons], fun y => by rw [List.mem_cons, o.mem, List.mem_cons]; constructor <;> (intro hh; rcases hh with a | b | c <;> simp [*])⟩, List.Pairwise.cons (fun y hy => by
        rcases (o.mem y).1 hy with e | e
        · omega
        · exact h1 y e) i, ?_⟩
      show withoutC (v :: withC r x) x = v :: r
      unfold withoutC at w ⊢
      rw [List.filter_cons, if_pos (by simpa using hvx), w]
    · have hgt : x < v := by omega
      rw [with_cons_gt hgt h]
      refine ⟨⟨fun f => by rw [List.countP_cons (a := x)], by simp, fun y => by simp⟩, List.Pairwise.cons (fun y hy => by
        rcases List.mem_cons.1 hy with e | e
        · omega
        · have := h1 y e; omega) h, ?_⟩
      unfold withoutC
      rw [List.filter_cons, if_neg (by simp)]
      exact List.filter_eq_self.2 (fun y hy => by
        simp only [decide_eq_true_eq]
        intro e
        subst e
        exact hx hy)
theorem without_one : ∀ (l : List Int) (x : Int), Inc l → x ∈ l → OneMore (withoutC l x) l x ∧ Inc (withoutC l x) ∧ x ∉ withoutC l x ∧ withC (withoutC l x) x = l
  | [], x, h, hx => by cases hx
  | v :: r, x, h, hx => by
    obtain ⟨h1, h2⟩ := List.pairwise_cons.1 h
    by_cases hvx : v = x
    · subst hvx
      have hxr : v ∉ r := fun e => by have := h1 v e; omega
      have hw : withoutC (v :: r) v = r := by
        unfold withoutC
        rw [List.filter_cons, if_neg (by simp)]
        exact List.filter_eq_self.2 (fun y hy => by
          simp only [decide_eq_true_eq]
          intro e
          subst e
          exact hxr hy)
      rw [hw]
      refine ⟨⟨fun f => by rw [List.countP_cons], rfl, fun y => by simp⟩, h2, hxr, ?_⟩
      cases r with
      | nil => simp [withC]
      | cons u t => exact with_cons_gt (h1 u (List.mem_cons_self ..)) h2
    · have hxr : x ∈ r := by
        rcases List.mem_cons.1 hx with e | e
        · exact absurd e.symm hvx
        · exact e
      obtain ⟨o, i, n, w⟩ := without_one r x h2 hxr
      have hw : withoutC (v :: r) x = v :: withoutC r x := by
        unfold withoutC
        rw [List.filter_cons, if_pos (by simpa using hvx)]
      rw [hw]
      refine ⟨⟨fun f => by rw [List.countP_cons, List.countP_cons, o.cnt]; omega, by rw [List.length_cons, o.len, List.length_cons], fun y => by rw [List.mem_cons, o.mem, List.mem_cons]; constructor <;> (intro hh; rcases hh with a | b | c <;> simp [*])⟩, List.Pairwise.cons (fun y hy => h1 y ((o.mem y).2 (.inr hy))) i, fun e => ?_, ?_⟩
      · rcases List.mem_cons.1 e with e | e
        · exact hvx e.symm
        · exact n e
      · have hlt : v < x := h1 x hxr
        rw [with_cons_lt hlt, w]
theorem without_out {l : List Int} {x : Int} (h : x ∉ l) : withoutC l x = l := List.filter_eq_self.2 (fun y hy => by
  simp only [decide_eq_true_eq]
  intro e
  subst e
  exact h hy)
/-- A node in, if it is out; out, if it is in. -/
def turnC (l : List Int) (x : Int) : List Int := if hasC l x = true then withoutC l x else withC l x
theorem turn_one {l : List Int} (x : Int) (h : Inc l) : (OneMore l (turnC l x) x ∨ OneMore (turnC l x) l x) ∧ Inc (turnC l x) ∧ turnC (turnC l x) x = l := by
  unfold turnC
  by_cases hx : x ∈ l
  · have e : hasC l x = true := decide_eq_true hx
    obtain ⟨o, i, n, w⟩ := without_one l x h hx
    have e2 : ¬ hasC (withoutC l x) x = true := by unfold hasC; simpa using n
    rw [if_pos e, if_neg e2]
    exact ⟨.inr o, i, w⟩
  · have e : ¬ hasC l x = true := by unfold hasC; simpa using hx
    obtain ⟨o, i, w⟩ := with_one l x h hx
    have e2 : hasC (withC l x) x = true := decide_eq_true ((o.mem x).2 (.inl rfl))
    rw [if_neg e, if_pos e2]
    exact ⟨.inl o, i, w⟩
theorem com_all {l m : List Int} (h : ∀ x ∈ l, x ∈ m) : comC l m = l.length := List.countP_eq_length.2 (fun x hx => decide_eq_true (h x hx))
theorem one_next {l m : List Int} {x : Int} (h : OneMore l m x) (hx : x ∉ l) (hl : rightC l = true) (hm : rightC m = true) : nextC l m = true ∧ nextC m l = true := by
  have h1 : comC l m = l.length := com_all (fun y hy => (h.mem y).2 (.inr hy))
  have h2 : comC m l = l.length := by
    unfold comC
    rw [h.cnt, if_neg (by unfold hasC; simpa using hx)]
    exact com_all (fun y hy => hy)
  have hlen := h.len
  unfold nextC
  rw [hl, hm, h1, h2]
  simp [hlen]
theorem one_not {l m : List Int} {x : Int} (h : OneMore l m x) (hi : Inc m) (hil : Inc l) : x ∉ l := fun hx => by
  have h1 := h.cnt (fun y => decide (y = x))
  rw [if_pos (by simp)] at h1
  have h2 : 0 < l.countP (fun y => decide (y = x)) := List.countP_pos_iff.2 ⟨x, hx, by simp⟩
  have h3 : ∀ (k : List Int), Inc k → k.countP (fun y => decide (y = x)) ≤ 1 := fun k => by
    intro hk
    induction k with
    | nil => simp
    | cons v r ih =>
      obtain ⟨a, b⟩ := List.pairwise_cons.1 hk
      rw [List.countP_cons]
      by_cases hv : v = x
      · have : r.countP (fun y => decide (y = x)) = 0 := List.countP_eq_zero.2 (fun y hy => by have := a y hy; simp; omega)
        rw [this]
        split <;> omega
      · rw [if_neg (by simpa using hv)]
        have := ih b
        omega
  have := h3 m hi
  omega
/-- Beside right rows, the next ones are those with a node turned. -/
theorem turn_next {l : List Int} (x : Int) (h : rightC l = true) : nextC l (turnC l x) = rightC (turnC l x) ∧ nextC (turnC l x) l = rightC (turnC l x) := by
  obtain ⟨o, i, -⟩ := turn_one x (right_inc h)
  cases hm : rightC (turnC l x) with
  | false => unfold nextC; simp [h, hm]
  | true =>
    rcases o with o | o
    · exact one_next o (one_not o i (right_inc h)) h hm
    · exact (one_next o (one_not o (right_inc h) i) hm h).symm
theorem next_self (l : List Int) : nextC l l = false := by
  unfold nextC
  have h1 : decide (l.length = l.length + 1) = false := decide_eq_false (by omega)
  have h2 : decide (l.length + 1 = l.length) = false := decide_eq_false (by omega)
  rw [h1, h2]
  simp
theorem turn_len {l : List Int} (x : Int) (h : Inc l) : (turnC l x).length = l.length + 1 ∨ (turnC l x).length + 1 = l.length := by
  rcases (turn_one x h).1 with o | o
  · exact .inl o.len
  · exact .inr o.len.symm
theorem next_two {l : List Int} (a b : Int) (h : rightC l = true) : nextC l (turnC (turnC l a) b) = false := by
  have h1 := turn_len a (right_inc h)
  have h2 := turn_len b (turn_one a (right_inc h)).2.1
  unfold nextC
  rw [show decide ((turnC (turnC l a) b).length = l.length + 1) = false from decide_eq_false (by omega), show decide ((turnC (turnC l a) b).length + 1 = l.length) = false from decide_eq_false (by omega)]
  simp
/-! ### most, with more of them -/
theorem most_grows {l yes more : List Int} (h : mostC l yes = true) : mostC l (yes ++ more) = true := by
  unfold mostC comC at *
  simp only [decide_eq_true_eq] at *
  have := countP_le (p := hasC yes) (q := hasC (yes ++ more)) l (fun x hx hp => by
    unfold hasC at *
    simp only [decide_eq_true_eq] at *
    exact List.mem_append_left _ hp)
  omega
theorem most_all (l : List Int) : mostC l l = decide (0 < l.length) := by
  unfold mostC
  rw [com_all (fun x hx => hx)]
  congr 1
  exact propext ⟨fun h => by omega, fun h => by omega⟩
theorem com_take {l : List Int} (h : Inc l) (k : Nat) : comC l (l.take k) ≤ k := by
  have key : ∀ (k : Nat) (l : List Int), Inc l → comC l (l.take k) ≤ k := by
    intro k
    induction k with
    | zero => intro l h; unfold comC; rw [List.take_zero]; exact Nat.le_of_eq (List.countP_eq_zero.2 (fun x hx => by unfold hasC; simp))
    | succ k ih =>
      intro l h
      cases l with
      | nil => unfold comC; simp
      | cons v r =>
        obtain ⟨a, b⟩ := List.pairwise_cons.1 h
        unfold comC
        rw [List.take_succ_cons, List.countP_cons]
        have h1 : r.countP (hasC (v :: r.take k)) ≤ r.countP (hasC (r.take k)) := countP_le r (fun x hx hp => by
          unfold hasC at *
          simp only [decide_eq_true_eq, List.mem_cons] at *
          rcases hp with e | e
          · have := a x hx; omega
          · exact e)
        have := ih r b
        unfold comC at this
        split <;> omega
  exact key k l h
theorem most_half {l : List Int} (h : Inc l) : mostC l (l.take (l.length / 2)) = false := by
  unfold mostC
  have := com_take h (l.length / 2)
  simp only [decide_eq_false_iff_not]
  omega
end Go.Proofs.Ytcjhiegiccekpaa
