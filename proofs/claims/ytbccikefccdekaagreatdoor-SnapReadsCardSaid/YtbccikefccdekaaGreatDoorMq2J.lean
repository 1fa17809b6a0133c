import Derived.Test.YtbccikefccdekaaGreatDoorMq1J
import Derived.Lib.AppendStr
import GoSem.Op.String
import GoSem.ClaimWide
import Derived.WideShapes
import Derived.Sort.KeysCollected
import Derived.Test.YtbccikefccdekaaGreatDoorProg
import Derived.Shelf.SlIter.Nil
import Derived.Shelf.SortM.Plain
import Derived.Shelf.SortM.SortNone
import Derived.Lib.BufferWrite
import Derived.Lib.UnsafeStr
import Derived.Deep.RegionHeld3
import Derived.WalkSpells
import Derived.IntWalk
/-
  append(b, s...) at a row of bytes: where the new row lies.
-/
namespace Go.Proofs.YtbccikefccdekaaGreatDoor
open Go.RowKit
set_option linter.unusedVariables false
set_option maxRecDepth 100000

theorem run_app_str (w : World) (ty : TypeId) (v : Value) (l : List UInt8) (hown : Bytes w 0 v l) (s : ByteArray) (hb : l.length + s.size ≤ 140737488355328) :
    ∃ v' w', (Builtin.append_ #[33, 9] ty #[v, .string s]).run Tryz.prog w = .ok v' w' ∧ Bytes w' 0 v' (l ++ s.data.toList) ∧ w.grownBy w' v.ownBlock ∧ (∀ b, v'.ownBlock = some b → v.ownBlock = some b ∨ w.heap.size ≤ b) := by
  obtain ⟨i0, hi, hz0, hz1, hz2⟩ := infoByte_parts
  have hm : l.length + s.size ≤ maxLen := by unfold maxLen; omega
  obtain ⟨v', w', hr, ho, hg, _⟩ := Lib.run_append_own_string (P := Tryz.prog) w 0 33 9 ty 5 i0 Tryz.underlying33 Tryz.underlying9 hi hz0 hz1 hz2 v l.length (Lib.byteCells l) hown s hm hb (Nat.zero_le _)
  refine ⟨v', w', hr, ?_, hg, ?_⟩
  · unfold Bytes
    rw [List.length_append, str_len, Lib.byteCells_append]
    exact ho
  · intro b hvb
    rcases hown.2 with ⟨rfl, h0⟩ | ⟨g, cap, cur, rfl, _, hgc, hnc, hcm, hcs, htake⟩
    · have hown' : w.ownsRow w.heap.size 5 1 (.slice none 0 0) l.length (Lib.byteCells l) := ⟨hown.1, .inl ⟨rfl, h0⟩⟩
      obtain ⟨v2, w2, hr2, ho2, _, _⟩ := Lib.run_append_own_string (P := Tryz.prog) w w.heap.size 33 9 ty 5 i0 Tryz.underlying33 Tryz.underlying9 hi hz0 hz1 hz2 (.slice none 0 0) l.length (Lib.byteCells l) hown' s hm hb (Nat.le_refl _)
      rw [hr] at hr2
      simp only [Result.ok.injEq] at hr2
      rw [← hr2.1, ← hr2.2] at ho2
      exact .inr (World.ownsRow.lt ho2 b hvb).1
    · by_cases hroom : l.length + s.size ≤ cap
      · have hr2 := Lib.run_append_room_string (P := Tryz.prog) w 33 9 ty 5 i0 Tryz.underlying33 Tryz.underlying9 hi hz1 g l.length cap cur hgc s hroom (by omega)
        rw [hr] at hr2
        simp only [Result.ok.injEq] at hr2
        rw [hr2.1] at hvb
        exact .inl hvb
      · have hr2 := Lib.run_append_grow_string (P := Tryz.prog) w 33 9 ty 5 i0 (.int .u8 0) Tryz.underlying33 Tryz.underlying9 hi hz0 ⟨g, 0, none⟩ l.length cap (Lib.byteCells l) (by rw [hz1, Lib.byteCells_length]; omega) (World.ownsRow.cells hown (g := g) rfl) s (by omega) (by omega) (by rw [hz2]; exact growslice_fits (by omega) (by omega))
        rw [hr] at hr2
        simp only [Result.ok.injEq] at hr2
        rw [hr2.1] at hvb
        cases hvb
        exact .inr (Nat.le_refl _)

/-- A call of append at the operation, by an equation on its run. -/
theorem wpList_append_run {w : World} {ops : Array Oper} {rest : List Oper} {o : Oper} {a : Act} {Q : Exit → Act → World → Prop} (hgd : o.guard = none) (sl x : Operand) (t u : TypeId)
    (ho : o.op = .call { callee := .builtin .append, args := #[sl, x], argTypes := #[t, u] }) (v s : Value) (hs : a.eval sl = v) (hx : a.eval x = s) (v' : Value) (w' : World)
    (hr : (Builtin.append_ #[t, u] o.type #[v, s]).run Tryz.prog w = .ok v' w') (h : wpList Tryz.prog ops Q rest (a.put o.dst v') w') : wpList Tryz.prog ops Q (o :: rest) a w := by
  refine wpList_plain hgd fun K hK => ?_
  unfold Oper.wp execOp
  simp only [ho, resolve, invoke, builtin, Sem.run_bind, Sem.run_pure, Result.andThen_ok, List.map_toArray, List.map_cons, List.map_nil, hs, hx, hr]
  exact hK _ _ h
end Go.Proofs.YtbccikefccdekaaGreatDoor

/-
  LAYER 2 (disk), THE PLAIN MATHEMATICS: a disk as a list of files by rising names; what each call makes of it; what stays true whatever is called.
-/
namespace Go.Proofs.YtbccikefccdekaaGreatDoor
set_option linter.unusedVariables false
set_option maxRecDepth 100000

/-! ### the order of byte strings -/
theorem bytesBefore_lt : ∀ a b : List UInt8, bytesBefore a b = decide (a < b)
  | [], [] => by simp [bytesBefore]
  | [], _ :: _ => by simp [bytesBefore]
  | _ :: _, [] => by simp [bytesBefore]
  | a :: r, b :: s => by
    simp only [bytesBefore, bytesBefore_lt r s, List.cons_lt_cons_iff]
    by_cases h : a < b <;> by_cases h2 : a = b <;> simp [h, h2]
theorem bytesLess_lt : ∀ a b : List UInt8, Op.bytesLess a b = decide (a < b)
  | [], [] => by simp [Op.bytesLess]
  | [], _ :: _ => by simp [Op.bytesLess]
  | _ :: _, [] => by simp [Op.bytesLess]
  | a :: r, b :: s => by
    simp only [Op.bytesLess, bytesLess_lt r s, List.cons_lt_cons_iff]
    by_cases h : a < b <;> by_cases h2 : a = b <;> simp [h, h2]
theorem blt_irrefl (a : List UInt8) : ¬ a < a := List.lt_irrefl a
theorem blt_trans {a b c : List UInt8} (h : a < b) (k : b < c) : a < c := List.lt_trans h k
theorem blt_asymm {a b : List UInt8} (h : a < b) : ¬ b < a := List.lt_asymm h
theorem blt_ne {a b : List UInt8} (h : a < b) : a ≠ b := fun e => blt_irrefl a (by rw [e] at h ⊢; exact h)
theorem blt_total {a b : List UInt8} (h : ¬ a < b) (k : a ≠ b) : b < a := by
  rcases Classical.em (b < a) with h1 | h1
  · exact h1
  · exact absurd (List.le_antisymm (List.not_lt.1 h1) (List.not_lt.1 h)) k

/-! ### rows by rising keys -/
section
variable {α β : Type}
def insK (key : α → List UInt8) (f : α) : List α → List α
  | [] => [f]
  | x :: r => if key f < key x then f :: x :: r else x :: insK key f r
def delK (key : α → List UInt8) (n : List UInt8) (l : List α) : List α := l.filter fun x => decide (key x ≠ n)
def fndK (key : α → List UInt8) (n : List UInt8) (l : List α) : Option α := l.find? fun x => decide (key x = n)
def updK (key : α → List UInt8) (n : List UInt8) (h : α → α) (l : List α) : List α := l.map fun x => if key x = n then h x else x
def RiseK (key : α → List UInt8) (l : List α) : Prop := l.Pairwise fun x y => key x < key y
variable {key : α → List UInt8} {key' : β → List UInt8}

theorem insK_mem {f x : α} : ∀ {l : List α}, x ∈ insK key f l ↔ x = f ∨ x ∈ l
  | [] => by simp [insK]
  | y :: r => by
    unfold insK
    split
    · simp
    · simp [insK_mem (l := r)]
      constructor
      · rintro (h | h | h) <;> simp [h]
      · rintro (h | h | h) <;> simp [h]
theorem insK_length (f : α) : ∀ l : List α, (insK key f l).length = l.length + 1
  | [] => rfl
  | y :: r => by unfold insK; split <;> simp [insK_length f r]
theorem insK_perm (f : α) : ∀ l : List α, (insK key f l).Perm (f :: l)
  | [] => List.Perm.refl _
  | y :: r => by
    unfold insK
    split
    · exact List.Perm.refl _
    · exact ((insK_perm f r).cons y).trans (List.Perm.swap f y r)
theorem insK_rise {f : α} : ∀ {l : List α}, RiseK key l → (∀ x ∈ l, key x ≠ key f) → RiseK key (insK key f l)
  | [], _, _ => by simp [insK, RiseK]
  | y :: r, h, hn => by
    obtain ⟨h1, h2⟩ := List.pairwise_cons.1 h
    unfold insK
    split
    · rename_i hlt
      refine List.pairwise_cons.2 ⟨fun x hx => ?_, h⟩
      rcases List.mem_cons.1 hx with rfl | hx
      · exact hlt
      · exact blt_trans hlt (h1 x hx)
    · rename_i hlt
      refine List.pairwise_cons.2 ⟨fun x hx => ?_, insK_rise h2 (fun x hx => hn x (by simp [hx]))⟩
      rcases insK_mem.1 hx with rfl | hx
      · exact blt_total hlt (fun e => hn y (by simp) e.symm)
      · exact h1 x hx
theorem insK_map {h : α → β} (hk : ∀ x, key' (h x) = key x) (f : α) : ∀ l : List α, (insK key f l).map h = insK key' (h f) (l.map h)
  | [] => rfl
  | y :: r => by
    simp only [insK, List.map_cons, hk]
    split <;> simp [insK_map hk f r]
theorem delK_map {h : α → β} (hk : ∀ x, key' (h x) = key x) (n : List UInt8) (l : List α) : (delK key n l).map h = delK key' n (l.map h) := by
  unfold delK
  rw [List.filter_map]
  congr 1
  apply List.filter_congr
  intro x _
  simp [hk]
theorem fndK_map {h : α → β} (hk : ∀ x, key' (h x) = key x) (n : List UInt8) (l : List α) : fndK key' n (l.map h) = (fndK key n l).map h := by
  unfold fndK
  rw [List.find?_map]
  congr 2
  funext x
  simp [hk]
theorem updK_map {h : α → β} (hk : ∀ x, key' (h x) = key x) (n : List UInt8) (g : α → α) (g' : β → β) (hg : ∀ x, h (g x) = g' (h x)) (l : List α) : (updK key n g l).map h = updK key' n g' (l.map h) := by
  unfold updK
  simp only [List.map_map]
  apply List.map_congr_left
  intro x _
  simp only [Function.comp_apply, hk]
  split <;> simp [hg]
theorem delK_rise {n : List UInt8} {l : List α} (h : RiseK key l) : RiseK key (delK key n l) := List.Pairwise.sublist List.filter_sublist h
theorem updK_rise {n : List UInt8} {g : α → α} (hg : ∀ x, key (g x) = key x) {l : List α} (h : RiseK key l) : RiseK key (updK key n g l) := by
  unfold RiseK updK
  refine List.pairwise_map.2 (h.imp fun {x y} hxy => ?_)
  show key (if key x = n then g x else x) < key (if key y = n then g y else y)
  have h1 : ∀ z, key (if key z = n then g z else z) = key z := fun z => by split <;> simp [hg]
  rw [h1, h1]; exact hxy
theorem fndK_some {n : List UInt8} {l : List α} {f : α} (h : fndK key n l = some f) : f ∈ l ∧ key f = n := by
  have h1 := List.mem_of_find?_eq_some h
  have h2 := List.find?_some h
  exact ⟨h1, by simpa using h2⟩
theorem fndK_none {n : List UInt8} {l : List α} (h : fndK key n l = none) : ∀ x ∈ l, key x ≠ n := by
  intro x hx
  have := List.find?_eq_none.1 h x hx
  simpa using this
theorem rise_inj {l : List α} (h : RiseK key l) {x y : α} (hx : x ∈ l) (hy : y ∈ l) (he : key x = key y) : x = y := by
  induction l with
  | nil => cases hx
  | cons z r ih =>
    obtain ⟨h1, h2⟩ := List.pairwise_cons.1 h
    rcases List.mem_cons.1 hx with e1 | hx' <;> rcases List.mem_cons.1 hy with e2 | hy'
    · rw [e1, e2]
    · subst e1; exact absurd he (blt_ne (h1 y hy'))
    · subst e2; exact absurd he.symm (blt_ne (h1 x hx'))
    · exact ih h2 hx' hy'
theorem fndK_of_mem {l : List α} (h : RiseK key l) {x : α} (hx : x ∈ l) : fndK key (key x) l = some x := by
  cases hf : fndK key (key x) l with
  | none => exact absurd rfl (fndK_none hf x hx)
  | some y =>
    obtain ⟨hy, he⟩ := fndK_some hf
    rw [rise_inj h hy hx he]
theorem delK_none {n : List UInt8} {l : List α} (h : fndK key n l = none) : delK key n l = l := by
  unfold delK
  rw [List.filter_eq_self]
  intro x hx
  simpa using fndK_none h x hx
theorem delK_mem {n : List UInt8} {l : List α} {x : α} : x ∈ delK key n l ↔ x ∈ l ∧ key x ≠ n := by simp [delK]
theorem delK_length {n : List UInt8} {l : List α} (hr : RiseK key l) {f : α} (h : fndK key n l = some f) : (delK key n l).length + 1 = l.length := by
  induction l with
  | nil => simp [fndK] at h
  | cons x r ih =>
    obtain ⟨h1, h2⟩ := List.pairwise_cons.1 hr
    by_cases hx : key x = n
    · have hnone : fndK key n r = none := by
        unfold fndK
        rw [List.find?_eq_none]
        intro y hy
        have := blt_ne (h1 y hy)
        simp [← hx]; exact fun e => this e.symm
      have hd := delK_none hnone
      unfold delK at hd ⊢
      rw [List.filter_cons_of_neg (by simp [hx]), hd]
      simp
    · have hf : fndK key n r = some f := by
        unfold fndK at h ⊢
        rwa [List.find?_cons_of_neg (by simpa using hx)] at h
      have := ih h2 hf
      unfold delK at this ⊢
      rw [List.filter_cons_of_pos (by simpa using hx)]
      simp only [List.length_cons]
      omega
theorem updK_length (n : List UInt8) (g : α → α) (l : List α) : (updK key n g l).length = l.length := by simp [updK]
theorem fndK_upd {n m : List UInt8} {g : α → α} (hg : ∀ x, key (g x) = key x) (l : List α) : fndK key m (updK key n g l) = if m = n then (fndK key n l).map g else fndK key m l := by
  induction l with
  | nil => simp [fndK, updK]
  | cons x r ih =>
    unfold fndK updK at *
    simp only [List.map_cons]
    by_cases hx : key x = n
    · by_cases hm : m = n
      · subst hm
        simp [hx, hg]
      · have : ¬ key (g x) = m := by rw [hg, hx]; exact fun e => hm e.symm
        have h2 : ¬ key x = m := by rw [hx]; exact fun e => hm e.symm
        simp only [hx, if_true]
        rw [List.find?_cons_of_neg (by simpa using this), ih, if_neg hm, if_neg hm, List.find?_cons_of_neg (by simpa using h2)]
    · simp only [hx, if_false]
      by_cases hm : key x = m
      · have hmn : ¬ m = n := by rw [← hm]; exact hx
        rw [List.find?_cons_of_pos (by simpa using hm), if_neg hmn, List.find?_cons_of_pos (by simpa using hm)]
      · rw [List.find?_cons_of_neg (by simpa using hm), ih]
        by_cases hmn : m = n
        · rw [if_pos hmn, if_pos hmn, List.find?_cons_of_neg (by simpa using hx)]
        · rw [if_neg hmn, if_neg hmn, List.find?_cons_of_neg (by simpa using hm)]
theorem fndK_ins {m : List UInt8} {f : α} : ∀ {l : List α}, (∀ x ∈ l, key x ≠ key f) → fndK key m (insK key f l) = if m = key f then some f else fndK key m l
  | [], _ => by
    by_cases h : m = key f
    · simp [fndK, insK, h]
    · simp [fndK, insK, h]; exact fun e => h e.symm
  | x :: r, hn => by
    unfold insK
    have hx := hn x (by simp)
    have ih := fndK_ins (m := m) (f := f) (l := r) (fun y hy => hn y (by simp [hy]))
    unfold fndK at *
    split
    · by_cases h : m = key f
      · rw [List.find?_cons_of_pos (by simp [h]), if_pos h]
      · rw [List.find?_cons_of_neg (by simp; exact fun e => h e.symm), if_neg h]
    · by_cases h : m = key f
      · rw [if_pos h] at ih ⊢
        rw [List.find?_cons_of_neg (by rw [h]; simpa using hx), ih]
      · rw [if_neg h] at ih ⊢
        by_cases h2 : key x = m
        · rw [List.find?_cons_of_pos (by simpa using h2), List.find?_cons_of_pos (by simpa using h2)]
        · rw [List.find?_cons_of_neg (by simpa using h2), List.find?_cons_of_neg (by simpa using h2), ih]
theorem fndK_del {n m : List UInt8} (l : List α) : fndK key m (delK key n l) = if m = n then none else fndK key m l := by
  unfold fndK delK
  rw [List.find?_filter]
  by_cases h : m = n
  · rw [if_pos h, List.find?_eq_none]
    intro x _
    simp; intro h1 h2; exact h1 (h2.trans h)
  · rw [if_neg h]
    congr 1
    funext x
    by_cases h2 : key x = m
    · simp [h2, h]
    · simp [h2]
/-- A row split at a name: how many names lie ahead. -/
def ahead (key : α → List UInt8) (n : List UInt8) (l : List α) : Nat := (l.takeWhile fun x => decide (key x < n)).length
theorem insK_split (f : α) : ∀ l : List α, RiseK key l → (∀ x ∈ l, key x ≠ key f) → insK key f l = l.take (ahead key (key f) l) ++ f :: l.drop (ahead key (key f) l)
  | [], _, _ => rfl
  | x :: r, hr, hn => by
    obtain ⟨h1, h2⟩ := List.pairwise_cons.1 hr
    have ih := insK_split f r h2 (fun y hy => hn y (by simp [hy]))
    unfold insK
    by_cases h : key f < key x
    · have : ¬ key x < key f := blt_asymm h
      simp [ahead, h, this]
    · have h3 : key x < key f := blt_total h (fun e => hn x (by simp) e.symm)
      rw [if_neg h, ih]
      simp [ahead, h3]
theorem ahead_lt {n : List UInt8} : ∀ {l : List α} {i : Nat}, i < ahead key n l → ∃ x, l[i]? = some x ∧ key x < n
  | [], i, hi => by simp [ahead] at hi
  | x :: r, i, hi => by
    by_cases h : key x < n
    · have he : ahead key n (x :: r) = ahead key n r + 1 := by simp [ahead, h]
      cases i with
      | zero => exact ⟨x, rfl, h⟩
      | succ i =>
        obtain ⟨y, hy, hlt⟩ := ahead_lt (n := n) (l := r) (i := i) (by omega)
        exact ⟨y, by simpa using hy, hlt⟩
    · simp [ahead, h] at hi
theorem ahead_at {n : List UInt8} : ∀ {l : List α} {x : α}, l[ahead key n l]? = some x → ¬ key x < n
  | [], x, h => by simp [ahead] at h
  | y :: r, x, h => by
    by_cases hy : key y < n
    · have he : ahead key n (y :: r) = ahead key n r + 1 := by simp [ahead, hy]
      rw [he] at h
      exact ahead_at (by simpa using h)
    · have he : ahead key n (y :: r) = 0 := by simp [ahead, hy]
      rw [he] at h
      simp at h
      subst h; exact hy
theorem ahead_le (n : List UInt8) (l : List α) : ahead key n l ≤ l.length := by
  unfold ahead
  exact (List.takeWhile_sublist _).length_le
theorem ahead_fnd {n : List UInt8} : ∀ {l : List α}, RiseK key l → fndK key n l = (l[ahead key n l]?).bind fun x => if key x = n then some x else none
  | [], _ => rfl
  | x :: r, hr => by
    obtain ⟨h1, h2⟩ := List.pairwise_cons.1 hr
    by_cases hx : key x < n
    · have he : ahead key n (x :: r) = ahead key n r + 1 := by simp [ahead, hx]
      rw [he]
      have := ahead_fnd (n := n) h2
      unfold fndK at *
      rw [List.find?_cons_of_neg (by simpa using blt_ne hx), this]
      rfl
    · have he : ahead key n (x :: r) = 0 := by simp [ahead, hx]
      rw [he]
      simp only [List.getElem?_cons_zero, Option.bind_some]
      by_cases h3 : key x = n
      · simp [fndK, h3]
      · rw [if_neg h3]
        unfold fndK
        rw [List.find?_eq_none]
        intro y hy
        rcases List.mem_cons.1 hy with rfl | hy
        · simpa using h3
        · simp
          intro e
          have := h1 y hy
          rw [e] at this
          exact hx this
theorem delK_split {n : List UInt8} : ∀ {l : List α}, RiseK key l → (fndK key n l).isSome → delK key n l = l.take (ahead key n l) ++ l.drop (ahead key n l + 1)
  | [], _, h => by simp [fndK] at h
  | x :: r, hr, h => by
    obtain ⟨h1, h2⟩ := List.pairwise_cons.1 hr
    by_cases hx : key x < n
    · have he : ahead key n (x :: r) = ahead key n r + 1 := by simp [ahead, hx]
      have hs : (fndK key n r).isSome := by
        unfold fndK at h ⊢
        rwa [List.find?_cons_of_neg (by simpa using blt_ne hx)] at h
      have := delK_split h2 hs
      rw [he]
      unfold delK at *
      rw [List.filter_cons_of_pos (by simpa using blt_ne hx), this]
      rfl
    · have he : ahead key n (x :: r) = 0 := by simp [ahead, hx]
      rw [he]
      by_cases h3 : key x = n
      · have hall : ∀ y ∈ r, key y ≠ n := fun y hy e => by
          have := h1 y hy
          rw [e, h3] at this
          exact blt_irrefl _ this
        unfold delK
        rw [List.filter_cons_of_neg (by simp [h3]), List.filter_eq_self.2 (fun y hy => by simpa using hall y hy)]
        rfl
      · exfalso
        have := ahead_fnd (n := n) hr
        rw [he] at this
        simp [h3] at this
        rw [this] at h
        cases h
theorem updK_at {n : List UInt8} {g : α → α} : ∀ {l : List α} {x : α}, RiseK key l → l[ahead key n l]? = some x → key x = n → updK key n g l = l.set (ahead key n l) (g x)
  | [], x, _, h, _ => by simp at h
  | y :: r, x, hr, h, hk => by
    obtain ⟨h1, h2⟩ := List.pairwise_cons.1 hr
    by_cases hy : key y < n
    · have he : ahead key n (y :: r) = ahead key n r + 1 := by simp [ahead, hy]
      rw [he] at h ⊢
      have := updK_at (g := g) h2 (by simpa using h) hk
      unfold updK at *
      simp only [List.map_cons, List.set_cons_succ, this]
      rw [if_neg (blt_ne hy)]
    · have he : ahead key n (y :: r) = 0 := by simp [ahead, hy]
      rw [he] at h ⊢
      simp at h
      subst h
      have hall : ∀ z ∈ r, key z ≠ n := fun z hz e => by
        have := h1 z hz
        rw [e, hk] at this
        exact blt_irrefl _ this
      unfold updK
      simp only [List.map_cons, hk, if_true, List.set_cons_zero]
      congr 1
      conv => rhs; rw [← List.map_id r]
      apply List.map_congr_left
      intro z hz
      rw [if_neg (hall z hz)]; rfl
end

/-! ### a disk -/
structure AF where
  name : List UInt8
  data : List UInt8
  synced : Nat
structure Dk where
  most : Int
  L : List AF
  fuse : Int
  dead : Bool
abbrev AF.key (f : AF) : List UInt8 := f.name

def nameByte (c : UInt8) : Bool := decide (97 ≤ (c.toNat : Int) ∧ (c.toNat : Int) ≤ 122 ∨ 48 ≤ (c.toNat : Int) ∧ (c.toNat : Int) ≤ 57)
def isName (s : List UInt8) : Bool := decide (1 ≤ s.length ∧ s.length ≤ 24) && s.all nameByte

def sz (L : List AF) : Nat := (L.map (·.data.length)).sum
/-- A call that changes: it takes a step off the fuse first. -/
def spends (s : Dk) (k : Dk → Dk) : Dk × Int :=
  if s.fuse = 0 then ({ s with dead := true }, 7) else (k { s with fuse := if 0 < s.fuse then s.fuse - 1 else s.fuse }, 0)
def newF (n d : List UInt8) : AF := ⟨n, d, 0⟩
def addF (d : List UInt8) (f : AF) : AF := { f with data := f.data ++ d }
def app (s : Dk) (n d : List UInt8) : Dk × Int :=
  if s.dead then (s, 7) else if isName n = false then (s, 3) else
  match fndK AF.key n s.L with
  | none => if 40 ≤ s.L.length then (s, 11) else if s.most - sz s.L < d.length then (s, 6) else spends s fun s => { s with L := insK AF.key (newF n d) s.L }
  | some _ => if s.most - sz s.L < d.length then (s, 6) else spends s fun s => { s with L := updK AF.key n (addF d) s.L }
def need (s : Dk) (n : List UInt8) (k : AF → Dk × Int) : Dk × Int :=
  if s.dead then (s, 7) else match fndK AF.key n s.L with | none => (s, 4) | some f => k f
def syncF (f : AF) : AF := { f with synced := f.data.length }
def syn (s : Dk) (n : List UInt8) : Dk × Int := need s n fun _ => spends s fun s => { s with L := updK AF.key n syncF s.L }
def cutF (k : Nat) (f : AF) : AF := { f with data := f.data.take k, synced := min f.synced k }
def trunc (s : Dk) (n : List UInt8) (k : Int) : Dk × Int :=
  need s n fun f => if k < 0 ∨ (f.data.length : Int) < k then (s, 2) else spends s fun s => { s with L := updK AF.key n (cutF k.toNat) s.L }
def ren (s : Dk) (n t : List UInt8) : Dk × Int :=
  need s n fun f => if isName t = false then (s, 3) else spends s fun s => { s with L := insK AF.key { f with name := t } (delK AF.key t (delK AF.key n s.L)) }
def dele (s : Dk) (n : List UInt8) : Dk × Int := need s n fun _ => spends s fun s => { s with L := delK AF.key n s.L }
def rd (s : Dk) (n : List UInt8) : List UInt8 × Int := if s.dead then ([], 7) else match fndK AF.key n s.L with | none => ([], 4) | some f => (f.data, 0)
def setFuse (s : Dk) (n : Int) : Dk := { s with fuse := max n (-1) }
def noiseByte (n : Int) : UInt8 := UInt8.ofNat (n % 256).toNat
def crF (f : AF) (keep noise : Int) : AF :=
  let kept := min (max keep 0).toNat (f.data.length - f.synced)
  let e := f.synced + kept
  { f with data := if kept = 0 then f.data.take e else (f.data.take e).set (e - 1) (f.data.getD (e - 1) 0 ^^^ noiseByte noise), synced := e }
def crL : List AF → List Int → List Int → List AF
  | [], _, _ => []
  | f :: r, ks, ns => if f.synced < f.data.length then crF f (ks.headD 0) (ns.headD 0) :: crL r ks.tail ns.tail else f :: crL r ks ns
def crash (s : Dk) (ks ns : List Int) : Dk := { s with L := crL s.L ks ns, fuse := -1, dead := false }

/-- What stays true. -/
structure Dk.Ok (s : Dk) : Prop where
  rise : RiseK AF.key s.L
  names : ∀ f ∈ s.L, isName f.name = true
  sync : ∀ f ∈ s.L, f.synced ≤ f.data.length
  many : s.L.length ≤ 40
  room : (sz s.L : Int) ≤ s.most
  most : s.most ≤ 10000000
  fuse : -1 ≤ s.fuse ∧ s.fuse ≤ 9223372036854775807

theorem sz_mem {f : AF} : ∀ {L : List AF}, f ∈ L → f.data.length ≤ sz L
  | x :: r, h => by
    simp only [sz, List.map_cons, List.sum_cons]
    rcases List.mem_cons.1 h with rfl | h
    · omega
    · have := sz_mem h; unfold sz at this; omega
theorem sz_cons (f : AF) (L : List AF) : sz (f :: L) = f.data.length + sz L := by simp [sz]
theorem sz_ins (f : AF) (L : List AF) : sz (insK AF.key f L) = f.data.length + sz L := by
  unfold sz
  rw [((insK_perm (key := AF.key) f L).map _).sum_nat]
  simp
theorem sz_upd_le {n : List UInt8} {g : AF → AF} {c : Nat} (hg : ∀ f, (g f).data.length ≤ f.data.length + c) : ∀ {L : List AF}, RiseK AF.key L → sz (updK AF.key n g L) ≤ sz L + c
  | [], _ => by simp [updK, sz]
  | x :: r, h => by
    obtain ⟨h1, h2⟩ := List.pairwise_cons.1 h
    simp only [updK, List.map_cons]
    by_cases hx : AF.key x = n
    · rw [if_pos hx, sz_cons, sz_cons]
      have hr : r.map (fun x => if AF.key x = n then g x else x) = r := by
        conv => rhs; rw [← List.map_id r]
        apply List.map_congr_left
        intro y hy
        rw [if_neg]
        · rfl
        · intro e
          have := h1 y hy
          rw [hx, e] at this
          exact blt_irrefl _ this
      rw [hr]
      have := hg x
      omega
    · rw [if_neg hx, sz_cons, sz_cons]
      have := sz_upd_le (n := n) hg h2
      unfold updK at this
      omega
theorem sz_del (n : List UInt8) (L : List AF) : sz (delK AF.key n L) ≤ sz L := by
  induction L with
  | nil => simp [delK, sz]
  | cons x r ih =>
    unfold delK at *
    by_cases h : AF.key x = n
    · rw [List.filter_cons_of_neg (by simp [h]), sz_cons]; omega
    · rw [List.filter_cons_of_pos (by simpa using h), sz_cons, sz_cons]; omega
theorem sz_del_fnd {n : List UInt8} {f : AF} : ∀ {L : List AF}, RiseK AF.key L → fndK AF.key n L = some f → sz (delK AF.key n L) + f.data.length = sz L
  | [], _, h => by simp [fndK] at h
  | x :: r, hr, h => by
    obtain ⟨h1, h2⟩ := List.pairwise_cons.1 hr
    by_cases hx : AF.key x = n
    · have hf : f = x := by
        unfold fndK at h
        rw [List.find?_cons_of_pos (by simpa using hx)] at h
        exact (Option.some.inj h).symm
      subst hf
      have hall : ∀ y ∈ r, AF.key y ≠ n := fun y hy e => by
        have := h1 y hy
        rw [e, hx] at this
        exact blt_irrefl _ this
      unfold delK
      rw [List.filter_cons_of_neg (by simp [hx]), List.filter_eq_self.2 (fun y hy => by simpa using hall y hy), sz_cons]; omega
    · have hf : fndK AF.key n r = some f := by
        unfold fndK at h ⊢
        rwa [List.find?_cons_of_neg (by simpa using hx)] at h
      have := sz_del_fnd h2 hf
      unfold delK at this ⊢
      rw [List.filter_cons_of_pos (by simpa using hx), sz_cons, sz_cons]; omega

theorem crF_len (f : AF) (k n : Int) (h : f.synced ≤ f.data.length) : (crF f k n).data.length = (crF f k n).synced ∧ (crF f k n).synced ≤ f.data.length ∧ f.synced ≤ (crF f k n).synced := by
  unfold crF
  simp only
  have : min (max k 0).toNat (f.data.length - f.synced) ≤ f.data.length - f.synced := Nat.min_le_right _ _
  generalize min (max k 0).toNat (f.data.length - f.synced) = t at *
  refine ⟨?_, by omega, by omega⟩
  split <;> simp <;> omega
theorem crF_name (f : AF) (k n : Int) : (crF f k n).name = f.name := rfl
theorem crL_names : ∀ (L : List AF) (ks ns : List Int), (crL L ks ns).map AF.name = L.map AF.name
  | [], _, _ => rfl
  | f :: r, ks, ns => by
    unfold crL
    split <;> simp [crL_names r, crF_name]
theorem crL_sz : ∀ (L : List AF) (ks ns : List Int), (∀ f ∈ L, f.synced ≤ f.data.length) → sz (crL L ks ns) ≤ sz L
  | [], _, _, _ => Nat.le_refl _
  | f :: r, ks, ns, h => by
    unfold crL
    split
    · rw [sz_cons, sz_cons]
      have := crL_sz r ks.tail ns.tail (fun g hg => h g (by simp [hg]))
      have h2 := crF_len f (ks.headD 0) (ns.headD 0) (h f (by simp))
      omega
    · rw [sz_cons, sz_cons]
      have := crL_sz r ks ns (fun g hg => h g (by simp [hg]))
      omega
theorem crL_synced : ∀ (L : List AF) (ks ns : List Int), (∀ f ∈ L, f.synced ≤ f.data.length) → ∀ f ∈ crL L ks ns, f.synced = f.data.length
  | [], _, _, _ => by simp [crL]
  | f :: r, ks, ns, h => by
    unfold crL
    have hf := h f (by simp)
    split
    · intro g hg
      rcases List.mem_cons.1 hg with rfl | hg
      · exact (crF_len f _ _ hf).1.symm
      · exact crL_synced r _ _ (fun g hg => h g (by simp [hg])) g hg
    · intro g hg
      rcases List.mem_cons.1 hg with rfl | hg
      · omega
      · exact crL_synced r _ _ (fun g hg => h g (by simp [hg])) g hg
theorem rise_names {L M : List AF} (h : L.map AF.name = M.map AF.name) (hr : RiseK AF.key L) : RiseK AF.key M := by
  unfold RiseK at *
  have h1 : (L.map AF.name).Pairwise (· < ·) := List.pairwise_map.2 hr
  rw [h] at h1
  exact List.pairwise_map.1 h1

/-! ### each call keeps it -/
theorem Ok_spends {s : Dk} (h : s.Ok) {k : Dk → Dk} (hk : ∀ s' : Dk, s'.Ok → s'.L = s.L → s'.most = s.most → (k s').Ok) : (spends s k).1.Ok := by
  unfold spends
  split
  · exact ⟨h.rise, h.names, h.sync, h.many, h.room, h.most, h.fuse⟩
  · refine hk _ ⟨h.rise, h.names, h.sync, h.many, h.room, h.most, ?_⟩ rfl rfl
    have := h.fuse
    show -1 ≤ (if 0 < s.fuse then s.fuse - 1 else s.fuse) ∧ (if 0 < s.fuse then s.fuse - 1 else s.fuse) ≤ _
    split <;> omega
theorem Ok_need {s : Dk} (h : s.Ok) {n : List UInt8} {k : AF → Dk × Int} (hk : ∀ f, fndK AF.key n s.L = some f → (k f).1.Ok) : (need s n k).1.Ok := by
  unfold need
  split
  · exact h
  · cases hf : fndK AF.key n s.L with
    | none => exact h
    | some f => exact hk f hf
theorem upd_mem {n : List UInt8} {g : AF → AF} {L : List AF} {f : AF} (h : f ∈ updK AF.key n g L) : f ∈ L ∨ ∃ x ∈ L, AF.key x = n ∧ f = g x := by
  unfold updK at h
  obtain ⟨x, hx, rfl⟩ := List.mem_map.1 h
  by_cases hn : AF.key x = n
  · exact .inr ⟨x, hx, hn, by rw [if_pos hn]⟩
  · exact .inl (by rw [if_neg hn]; exact hx)
theorem Ok_upd {s : Dk} (h : s.Ok) {n : List UInt8} {g : AF → AF} (c : Nat) (h1 : ∀ f, (g f).name = f.name) (h2 : ∀ f, f.synced ≤ f.data.length → (g f).synced ≤ (g f).data.length) (h3 : ∀ f, (g f).data.length ≤ f.data.length + c)
    (h4 : (sz s.L : Int) + c ≤ s.most) : ({ s with L := updK AF.key n g s.L } : Dk).Ok := by
  refine ⟨updK_rise h1 h.rise, ?_, ?_, ?_, ?_, h.most, h.fuse⟩
  · intro f hf
    rcases upd_mem hf with hf | ⟨x, hx, _, rfl⟩
    · exact h.names f hf
    · rw [h1]; exact h.names x hx
  · intro f hf
    rcases upd_mem hf with hf | ⟨x, hx, _, rfl⟩
    · exact h.sync f hf
    · exact h2 x (h.sync x hx)
  · show (updK _ _ _ _).length ≤ 40; rw [updK_length]; exact h.many
  · have := sz_upd_le (n := n) h3 h.rise
    show (sz (updK _ _ _ _) : Int) ≤ s.most
    omega
theorem Ok_ins {s : Dk} (h : s.Ok) {f : AF} (hn : isName f.name = true) (hs : f.synced ≤ f.data.length) (hx : ∀ x ∈ s.L, x.name ≠ f.name) (hm : s.L.length < 40) (hr : (sz s.L : Int) + f.data.length ≤ s.most) : ({ s with L := insK AF.key f s.L } : Dk).Ok := by
  refine ⟨insK_rise h.rise hx, ?_, ?_, ?_, ?_, h.most, h.fuse⟩
  · intro g hg
    rcases insK_mem.1 hg with rfl | hg
    · exact hn
    · exact h.names g hg
  · intro g hg
    rcases insK_mem.1 hg with rfl | hg
    · exact hs
    · exact h.sync g hg
  · show (insK _ _ _).length ≤ 40; rw [insK_length]; omega
  · show (sz (insK _ _ _) : Int) ≤ s.most
    rw [sz_ins]; omega
theorem Ok_del {s : Dk} (h : s.Ok) (n : List UInt8) : ({ s with L := delK AF.key n s.L } : Dk).Ok := by
  refine ⟨delK_rise h.rise, fun f hf => h.names f (delK_mem.1 hf).1, fun f hf => h.sync f (delK_mem.1 hf).1, ?_, ?_, h.most, h.fuse⟩
  · have : (delK AF.key n s.L).length ≤ s.L.length := List.length_filter_le _ _
    have := h.many
    show (delK _ _ _).length ≤ 40
    omega
  · have := sz_del n s.L
    have := h.room
    show (sz (delK _ _ _) : Int) ≤ s.most
    omega

theorem Ok_app {s : Dk} (h : s.Ok) (n d : List UInt8) : (app s n d).1.Ok := by
  unfold app
  split
  · exact h
  · split
    · exact h
    · rename_i hn
      have hn : isName n = true := by simpa using hn
      cases hf : fndK AF.key n s.L with
      | none =>
        simp only
        split
        · exact h
        · split
          · exact h
          · refine Ok_spends h fun s' h' hL hm => ?_
            refine Ok_ins h' hn (Nat.zero_le _) ?_ (by rw [hL]; omega) ?_
            · rw [hL]; exact fndK_none hf
            · rw [hL, hm]; show _ + (d.length : Int) ≤ _; omega
      | some f =>
        simp only
        split
        · exact h
        · refine Ok_spends h fun s' h' hL hm => ?_
          refine Ok_upd h' d.length (fun _ => rfl) (fun f hf => by simp [addF]; omega) (fun f => by simp [addF]) ?_
          rw [hL, hm]; omega
theorem Ok_syn {s : Dk} (h : s.Ok) (n : List UInt8) : (syn s n).1.Ok :=
  Ok_need h fun f hf => Ok_spends h fun s' h' hL hm => Ok_upd h' 0 (fun _ => rfl) (fun f hf => Nat.le_refl _) (fun f => Nat.le_refl _) (by have := h'.room; omega)
theorem Ok_trunc {s : Dk} (h : s.Ok) (n : List UInt8) (k : Int) : (trunc s n k).1.Ok :=
  Ok_need h fun f hf => by
    split
    · exact h
    · refine Ok_spends h fun s' h' hL hm => Ok_upd h' 0 (fun _ => rfl) (fun f hf => by simp [cutF]; omega) (fun f => by simp [cutF]; omega) (by have := h'.room; omega)
theorem Ok_dele {s : Dk} (h : s.Ok) (n : List UInt8) : (dele s n).1.Ok :=
  Ok_need h fun f hf => Ok_spends h fun s' h' hL hm => Ok_del h' n
theorem Ok_ren {s : Dk} (h : s.Ok) (n t : List UInt8) : (ren s n t).1.Ok :=
  Ok_need h fun f hf => by
    split
    · exact h
    · rename_i hn
      have hn : isName t = true := by simpa using hn
      refine Ok_spends h fun s' h' hL hm => ?_
      have h1 : ({ s' with L := delK AF.key t (delK AF.key n s'.L) } : Dk).Ok := Ok_del (Ok_del h' n) t
      rw [← hL] at hf
      have hm1 := fndK_some hf
      have hl := delK_length h'.rise hf
      have hl2 : (delK AF.key t (delK AF.key n s'.L)).length ≤ (delK AF.key n s'.L).length := List.length_filter_le _ _
      have hz1 := sz_del t (delK AF.key n s'.L)
      have hz2 := sz_del_fnd h'.rise hf
      have := h'.room
      have := h'.many
      refine Ok_ins (s := { s' with L := delK AF.key t (delK AF.key n s'.L) }) h1 (f := { f with name := t }) hn (h'.sync f hm1.1) ?_ ?_ ?_
      · intro x hx
        exact (delK_mem.1 hx).2
      · show (delK _ _ _).length < 40
        omega
      · show (sz (delK _ _ _) : Int) + (f.data.length : Int) ≤ s'.most
        omega
theorem Ok_fuse {s : Dk} (h : s.Ok) (n : Int) (hn : n ≤ 9223372036854775807) : (setFuse s n).Ok :=
  ⟨h.rise, h.names, h.sync, h.many, h.room, h.most, by simp only [setFuse]; omega⟩
theorem Ok_crash {s : Dk} (h : s.Ok) (ks ns : List Int) : (crash s ks ns).Ok := by
  refine ⟨rise_names (crL_names s.L ks ns).symm h.rise, ?_, ?_, ?_, ?_, h.most, by simp [crash]⟩
  · intro f hf
    have hf : f ∈ crL s.L ks ns := hf
    have : f.name ∈ (crL s.L ks ns).map AF.name := List.mem_map.2 ⟨f, hf, rfl⟩
    rw [crL_names] at this
    obtain ⟨g, hg, he⟩ := List.mem_map.1 this
    rw [← he]; exact h.names g hg
  · intro f hf
    exact Nat.le_of_eq (crL_synced s.L ks ns h.sync f hf)
  · have := congrArg List.length (crL_names s.L ks ns)
    simp at this
    show (crL _ _ _).length ≤ 40
    rw [this]; exact h.many
  · have := crL_sz s.L ks ns h.sync
    have := h.room
    show (sz (crL _ _ _) : Int) ≤ s.most
    omega

/-! ### an act -/
structure Ac where
  op : Int
  n : Int
  name : ByteArray
  to : ByteArray
  data : ByteArray
  keep : List Int
  noise : List Int
def pickZ (c n : Int) : Int := (if c < 0 then -(c + 1) else c) % n
def act (s : Dk) (a : Ac) : Dk × List UInt8 × Int :=
  let o := pickZ a.op 11
  let nm := a.name.data.toList
  if o = 4 then ((syn s nm).1, [], (syn s nm).2)
  else if o = 5 then ((trunc s nm a.n).1, [], (trunc s nm a.n).2)
  else if o = 6 then ((ren s nm a.to.data.toList).1, [], (ren s nm a.to.data.toList).2)
  else if o = 7 then ((dele s nm).1, [], (dele s nm).2)
  else if o = 8 then (s, (rd s nm).1, (rd s nm).2)
  else if o = 9 then (setFuse s a.n, [], 0)
  else if o = 10 then (crash s a.keep a.noise, [], 0)
  else ((app s nm a.data.data.toList).1, [], (app s nm a.data.data.toList).2)
theorem Ok_act {s : Dk} (h : s.Ok) (a : Ac) (hn : a.n ≤ 9223372036854775807) : (act s a).1.Ok := by
  unfold act
  simp only
  repeat' split
  · exact Ok_syn h _
  · exact Ok_trunc h _ _
  · exact Ok_ren h _ _
  · exact Ok_dele h _
  · exact h
  · exact Ok_fuse h _ hn
  · exact Ok_crash h _ _
  · exact Ok_app h _ _
def acts (s : Dk) (l : List Ac) : Dk := l.foldl (fun s a => (act s a).1) s
def newD (most : Int) : Dk := ⟨most, [], -1, false⟩
theorem Ok_new {m : Int} (h0 : 0 ≤ m) (h1 : m ≤ 10000000) : (newD m).Ok := ⟨List.Pairwise.nil, by simp [newD], by simp [newD], by simp [newD], by simpa [newD, sz] using h0, h1, by simp [newD]⟩
theorem Ok_acts : ∀ (l : List Ac) {s : Dk}, s.Ok → (∀ a ∈ l, a.n ≤ 9223372036854775807) → (acts s l).Ok
  | [], s, h, _ => h
  | a :: l, s, h, hn => Ok_acts l (Ok_act h a (hn a (by simp))) (fun b hb => hn b (by simp [hb]))
end Go.Proofs.YtbccikefccdekaaGreatDoor

/-
  LAYER 2 (disk): HOW A DISK LIES IN MEMORY: a struct, a map from names to pointers, and for each file a struct and a row of bytes.
-/
namespace Go.Proofs.YtbccikefccdekaaGreatDoor
open Go.RowKit Go.Maps
set_option linter.unusedVariables false
set_option maxRecDepth 100000

structure Fl where
  name : List UInt8
  data : List UInt8
  synced : Nat
  g : Nat
  v : Value
abbrev Fl.key (x : Fl) : List UInt8 := x.name
def Fl.abs (x : Fl) : AF := ⟨x.name, x.data, x.synced⟩
def Fl.foot (x : Fl) : List Nat := x.g :: x.v.ownBlock.toList
def Fl.ptr (x : Fl) : Value := .pointer (some ⟨x.g, 0, none⟩)

/-- How an element of the map reads: by its block. -/
def ptrElem : Value → Option (DataW Unit × List MemPlace)
  | .pointer none => some (.nil, [])
  | .pointer (some a) => if a = ⟨a.block, 0, none⟩ then some (.lit (.int .i64 a.block), []) else none
  | _ => none
def entOf (F : List Fl) : List (Lit × DataW Unit) := F.map fun x => (.string x.name, .lit (.int .i64 x.g))

theorem ptrElem_ptr (g : Nat) : ptrElem (.pointer (some ⟨g, 0, none⟩)) = some (.lit (.int .i64 (g : Int)), []) := by simp [ptrElem]
theorem ptrElem_inv {v : Value} {n : Nat} {ps : List MemPlace} (h : ptrElem v = some (.lit (.int .i64 (n : Int)), ps)) : v = .pointer (some ⟨n, 0, none⟩) := by
  unfold ptrElem at h
  split at h
  · cases h
  · split at h
    · rename_i a ha
      simp at h
      obtain ⟨b, o, sp⟩ := a
      simp at ha h
      obtain ⟨rfl, rfl⟩ := ha
      obtain ⟨h1, _⟩ := h
      have : b = n := by omega
      rw [this]
    · cases h
  · cases h
theorem ptrElem_nil {v : Value} {ps : List MemPlace} (h : ptrElem v = some (.nil, ps)) : v = .pointer none := by
  unfold ptrElem at h
  split at h
  · rfl
  · split at h <;> cases h
  · cases h

theorem sameKey_string (a b : List UInt8) : (Lit.string a).sameKey (.string b) = decide (a = b) := by
  unfold Lit.sameKey
  rw [Bool.eq_iff_iff]; simp
theorem has_ent (F : List Fl) (n : List UInt8) : Maps.has (.map (entOf F)) (.string n) = (fndK Fl.key n F).isSome := by
  rw [Maps.has_eq]
  unfold entOf fndK
  rw [List.any_map, Bool.eq_iff_iff, List.find?_isSome]
  simp [sameKey_string]
theorem atKey_ent_any (F : List Fl) (n : List UInt8) (zd : DataW Unit) : DataW.atKey (.map (entOf F)) (.string n) zd = (match fndK Fl.key n F with | none => zd | some x => .lit (.int .i64 (x.g : Int))) := by
  unfold DataW.atKey entOf fndK
  simp only [List.find?_map]
  have he : ((fun p : Lit × DataW Unit => p.1.sameKey (.string n)) ∘ fun x : Fl => (Lit.string x.name, DataW.lit (.int .i64 (x.g : Int)))) = fun x : Fl => decide (x.key = n) := by
    funext x; simp [sameKey_string]
  rw [he]
  cases List.find? (fun x : Fl => decide (x.key = n)) F <;> rfl
theorem atKey_ent (F : List Fl) (n : List UInt8) : DataW.atKey (.map (entOf F)) (.string n) .nil = (match fndK Fl.key n F with | none => .nil | some x => .lit (.int .i64 (x.g : Int))) := atKey_ent_any F n .nil
theorem insert_ent (x : Fl) : ∀ F : List Fl, DataW.insert ((Lit.string x.name, DataW.lit (.int .i64 (x.g : Int))) : Lit × DataW Unit) (entOf F) = entOf (insK Fl.key x F)
  | [] => rfl
  | y :: r => by
    unfold insK
    show DataW.insert _ ((Lit.string y.name, _) :: entOf r) = _
    unfold DataW.insert
    simp only [Lit.before, bytesBefore_lt]
    by_cases h : x.name < y.name
    · simp [h, entOf]
    · simp [h, insert_ent x r]; rfl
theorem filter_ent (n : List UInt8) (F : List Fl) : (entOf F).filter (fun p => !p.1.sameKey (.string n)) = entOf (delK Fl.key n F) := by
  unfold entOf delK
  rw [List.filter_map]
  congr 1
  apply List.filter_congr
  intro x _
  simp [sameKey_string]
theorem del_ent (n : List UInt8) (F : List Fl) : DataW.del (.map (entOf F)) (.string n) = .map (entOf (delK Fl.key n F)) := by
  unfold DataW.del
  rw [← filter_ent]
theorem put_ent (x : Fl) (F : List Fl) : DataW.put (.map (entOf F)) (.string x.name) (.lit (.int .i64 (x.g : Int))) = .map (entOf (insK Fl.key x (delK Fl.key x.name F))) := by
  unfold DataW.put
  rw [← insert_ent, ← filter_ent]
theorem size_ent (F : List Fl) : Maps.size (.map (entOf F)) = F.length := by simp [Maps.size_eq, entOf]
theorem strKeys_ent (F : List Fl) : strKeys (.map (entOf F)) = F.map Fl.name := by simp [strKeys, entOf, strOf]

theorem flatMap_sub {α β : Type} (f : α → List β) {l m : List α} (h : List.Sublist l m) : List.Sublist (l.flatMap f) (m.flatMap f) := by
  induction h with
  | slnil => exact List.Sublist.refl _
  | cons a _ ih => rw [List.flatMap_cons]; exact ih.trans (List.sublist_append_right _ _)
  | cons_cons a _ ih => rw [List.flatMap_cons, List.flatMap_cons]; exact List.Sublist.append (List.Sublist.refl _) ih

/-- One file. -/
structure FileOk (w : World) (x : Fl) : Prop where
  blk : own w x.g #[x.v, .int .i64 x.synced] 99
  row : Bytes w 0 x.v x.data
  apart : x.v.ownBlock ≠ some x.g

theorem bytes_slice {w : World} {B : Nat} {v : Value} {l : List UInt8} (h : Bytes w B v l) : ∃ ao cap, v = .slice ao l.length cap := by
  rcases h.2 with ⟨hv, hz⟩ | ⟨g, cap, cur, hv, _⟩
  · exact ⟨none, 0, by rw [hv, hz]⟩
  · exact ⟨_, _, hv⟩
theorem FileOk.slice {w : World} {x : Fl} (h : FileOk w x) : ∃ ao cap, x.v = .slice ao x.data.length cap := bytes_slice h.row
theorem FileOk.same {w w' : World} {x : Fl} (h : FileOk w x) (hs : ∀ b ∈ x.foot, w'.heap[b]? = w.heap[b]?) : FileOk w' x :=
  ⟨h.blk.same (hs _ (by simp [Fl.foot])), ownsRow_same h.row (fun b hb => hs b (by simp [Fl.foot, hb])), h.apart⟩

/-- A disk: mb: the map's block; F: the files. -/
structure DiskRep (w : World) (S : Nat → Prop) (a mb : Nat) (F : List Fl) (s : Dk) : Prop where
  head : ∃ left : Int, own w a #[.int .i64 s.most, .map (some mb), .bool (decide (0 ≤ s.fuse)), .int .i64 left, .bool s.dead] 71 ∧ (0 ≤ s.fuse → left = s.fuse)
  abs : s.L = F.map Fl.abs
  map : w.ownsMap Tryz.prog 9 ptrElem mb F.length (.map (entOf F))
  files : ∀ x ∈ F, FileOk w x
  apart : (a :: mb :: F.flatMap Fl.foot).Nodup
  inS : ∀ b ∈ a :: mb :: F.flatMap Fl.foot, S b
  lt : ∀ b, S b → b < w.heap.size
  ok : s.Ok
def DiskIs (w : World) (S : Nat → Prop) (a : Nat) (s : Dk) : Prop := ∃ mb F, DiskRep w S a mb F s

section
variable {w w' : World} {S : Nat → Prop} {a mb : Nat} {F : List Fl} {s : Dk}
theorem DiskRep.same (h : DiskRep w S a mb F s) (hz : w.heap.size ≤ w'.heap.size) (hs : ∀ b, S b → w'.heap[b]? = w.heap[b]?) : DiskRep w' S a mb F s := by
  obtain ⟨⟨left, h1, h2⟩, h3, h4, h5, h6, h7, h8, h9⟩ := h
  refine ⟨⟨left, h1.same (hs a (h7 a (by simp))), h2⟩, h3, ownsMap_same h4 (hs mb (h7 mb (by simp))), fun x hx => (h5 x hx).same (fun b hb => hs b (h7 b ?_)), h6, h7, fun b hb => by have := h8 b hb; omega, h9⟩
  simp only [List.mem_cons, List.mem_flatMap]
  exact .inr (.inr ⟨x, hx, hb⟩)
theorem DiskIs.same (h : DiskIs w S a s) (hz : w.heap.size ≤ w'.heap.size) (hs : ∀ b, S b → w'.heap[b]? = w.heap[b]?) : DiskIs w' S a s := by
  obtain ⟨mb, F, h⟩ := h
  exact ⟨mb, F, h.same hz hs⟩
theorem DiskIs.below (h : DiskIs w S a s) (hb : Below w.heap.size w w') : DiskIs w' S a s := by
  obtain ⟨mb, F, h⟩ := h
  exact ⟨mb, F, h.same hb.size (fun b hs => hb.block b (h.lt b hs))⟩
theorem DiskRep.below (h : DiskRep w S a mb F s) (hb : Below w.heap.size w w') : DiskRep w' S a mb F s := h.same hb.size (fun b hs => hb.block b (h.lt b hs))
theorem DiskRep.widen (h : DiskRep w S a mb F s) {T : Nat → Prop} (hT : ∀ b, S b → T b) (hlt : ∀ b, T b → b < w.heap.size) : DiskRep w T a mb F s :=
  ⟨h.head, h.abs, h.map, h.files, h.apart, fun b hb => hT b (h.inS b hb), hlt, h.ok⟩
theorem DiskRep.inA (h : DiskRep w S a mb F s) : S a := h.inS a (by simp)
theorem DiskRep.inM (h : DiskRep w S a mb F s) : S mb := h.inS mb (by simp)
theorem DiskRep.neAM (h : DiskRep w S a mb F s) : a ≠ mb := by
  have := h.apart
  simp at this
  exact fun e => this.1.1 e
theorem DiskRep.neAF (h : DiskRep w S a mb F s) {x : Fl} (hx : x ∈ F) {b : Nat} (hb : b ∈ x.foot) : b ≠ a ∧ b ≠ mb := by
  have := h.apart
  rw [List.nodup_cons, List.nodup_cons] at this
  have hm : b ∈ F.flatMap Fl.foot := List.mem_flatMap.2 ⟨x, hx, hb⟩
  exact ⟨fun e => this.1 (by subst e; simp [hm]), fun e => this.2.1 (by subst e; exact hm)⟩
theorem DiskRep.rise (h : DiskRep w S a mb F s) : RiseK Fl.key F := by
  have h1 := h.ok.rise
  rw [h.abs] at h1
  unfold RiseK at h1
  exact (List.pairwise_map (f := Fl.abs)).1 h1
theorem DiskRep.fnd (h : DiskRep w S a mb F s) (n : List UInt8) : fndK AF.key n s.L = (fndK Fl.key n F).map Fl.abs := by
  rw [h.abs]
  exact fndK_map (fun _ => rfl) n F
theorem DiskRep.len (h : DiskRep w S a mb F s) : F.length = s.L.length := by rw [h.abs]; simp

/-- The head's fuse and power turned. -/
theorem DiskRep.turn (h : DiskRep w S a mb F s) {fu left : Int} {dd : Bool} (hw : own w' a #[.int .i64 s.most, .map (some mb), .bool (decide (0 ≤ fu)), .int .i64 left, .bool dd] 71) (hl : 0 ≤ fu → left = fu)
    (hc : Chg (fun b => b = a) w w') (hf : -1 ≤ fu ∧ fu ≤ 9223372036854775807) : DiskRep w' S a mb F { s with fuse := fu, dead := dd } := by
  obtain ⟨h1, h3, h4, h5, h6, h7, h8, h9⟩ := h
  have h' : DiskRep w S a mb F s := ⟨h1, h3, h4, h5, h6, h7, h8, h9⟩
  refine ⟨⟨left, hw, hl⟩, h3, ownsMap_same h4 (hc.block _ (h8 _ (h7 _ (by simp))) (fun e => h'.neAM e.symm)), fun x hx => (h5 x hx).same (fun b hb => ?_), h6, h7, fun b hb => by have := h8 b hb; have := hc.size; omega, ⟨h9.rise, h9.names, h9.sync, h9.many, h9.room, h9.most, hf⟩⟩
  exact hc.block _ (h8 _ (h7 _ (by simp only [List.mem_cons, List.mem_flatMap]; exact .inr (.inr ⟨x, hx, hb⟩)))) (h'.neAF hx hb).1

theorem fl_split {n : List UInt8} {x : Fl} : ∀ {F : List Fl}, RiseK Fl.key F → fndK Fl.key n F = some x → ∃ F1 F2, F = F1 ++ x :: F2 ∧ (∀ g : Fl → Fl, updK Fl.key n g F = F1 ++ g x :: F2) ∧ delK Fl.key n F = F1 ++ F2
  | [], _, h => by simp [fndK] at h
  | y :: r, hr, h => by
    obtain ⟨h1, h2⟩ := List.pairwise_cons.1 hr
    by_cases hy : y.key = n
    · have hx : x = y := by
        unfold fndK at h
        rw [List.find?_cons_of_pos (by simpa using hy)] at h
        exact (Option.some.inj h).symm
      subst hx
      have hall : ∀ z ∈ r, z.key ≠ n := fun z hz e => by
        have := h1 z hz
        rw [e, hy] at this
        exact blt_irrefl _ this
      refine ⟨[], r, rfl, fun g => ?_, ?_⟩
      · unfold updK
        simp only [List.map_cons, hy, if_true, List.nil_append]
        congr 1
        conv => rhs; rw [← List.map_id r]
        apply List.map_congr_left
        intro z hz
        rw [if_neg (hall z hz)]; rfl
      · unfold delK
        rw [List.filter_cons_of_neg (by simp [hy]), List.filter_eq_self.2 (fun z hz => by simpa using hall z hz)]; rfl
    · have hf : fndK Fl.key n r = some x := by
        unfold fndK at h ⊢
        rwa [List.find?_cons_of_neg (by simpa using hy)] at h
      obtain ⟨F1, F2, e1, e2, e3⟩ := fl_split h2 hf
      refine ⟨y :: F1, F2, by rw [e1]; rfl, fun g => ?_, ?_⟩
      · have := e2 g
        unfold updK at *
        simp only [List.map_cons, if_neg hy, this, List.cons_append]
      · unfold delK at *
        rw [List.filter_cons_of_pos (by simpa using hy), e3]; rfl

/-- A file is exchanged for another one of the same name and block. -/
theorem DiskRep.set (h : DiskRep w S a mb F s) {n : List UInt8} {x x' : Fl} (hx : fndK Fl.key n F = some x) (hn : x'.name = x.name) (hg : x'.g = x.g) {H : AF → AF} (hH : x'.abs = H x.abs) (hHn : ∀ f, (H f).name = f.name)
    (hw : FileOk w' x') (hc : Chg (fun b => b ∈ x.foot) w w') (hsub : ∀ b ∈ x'.foot, b ∈ x.foot ∨ w.heap.size ≤ b) (hok : ({ s with L := updK AF.key n H s.L } : Dk).Ok) :
    ∃ F', DiskRep w' (grow S w w') a mb F' { s with L := updK AF.key n H s.L } ∧ fndK Fl.key n F' = some x' := by
  obtain ⟨F1, F2, e1, e2, e3⟩ := fl_split h.rise hx
  obtain ⟨hxm, hxn⟩ := fndK_some hx
  have hr := h.rise
  have hin : ∀ b ∈ a :: mb :: F.flatMap Fl.foot, b < w.heap.size := fun b hb => h.lt b (h.inS b hb)
  have hU : updK Fl.key n (fun y => { x' with name := y.name }) F = F1 ++ x' :: F2 := by
    rw [e2]
    congr 2
    rw [← hn]
  have hap := h.apart
  rw [e1] at hap hin
  simp only [List.flatMap_append, List.flatMap_cons] at hap hin
  have hY : x'.foot.Nodup := by
    unfold Fl.foot
    cases hv : x'.v.ownBlock with
    | none => simp
    | some b =>
      have := hw.apart
      rw [hv] at this
      simp; exact fun e => this (by rw [e])
  have hlt' : ∀ b ∈ x'.foot, b < w'.heap.size := by
    intro b hb
    unfold Fl.foot at hb
    rcases List.mem_cons.1 hb with rfl | hb
    · exact hw.blk.lt
    · exact ((World.ownsRow.lt hw.row) b (by simpa using hb)).2
  refine ⟨updK Fl.key n (fun y => { x' with name := y.name }) F, ⟨?_, ?_, ?_, ?_, ?_, ?_, grow_lt h.lt hc.size, hok⟩, ?_⟩
  · obtain ⟨left, hl1, hl2⟩ := h.head
    exact ⟨left, hl1.chg hc (fun hb => (h.neAF hxm hb).1 rfl), hl2⟩
  · show updK AF.key n H s.L = _
    rw [hU, h.abs]
    rw [e1]
    simp only [updK, List.map_append, List.map_cons]
    rw [if_pos (show AF.key x.abs = n from hxn), hH]
    have hne : ∀ y ∈ F1 ++ F2, ¬ AF.key y.abs = n := by
      intro y hy
      have : y ∈ delK Fl.key n F := by rw [e3]; exact hy
      exact (delK_mem.1 this).2
    congr 1
    · rw [List.map_map]
      apply List.map_congr_left
      intro y hy
      simp only [Function.comp_apply]
      rw [if_neg (hne y (by simp [hy]))]
    · congr 1
      rw [List.map_map]
      apply List.map_congr_left
      intro y hy
      simp only [Function.comp_apply]
      rw [if_neg (hne y (by simp [hy]))]
  · have h4 : entOf (updK Fl.key n (fun y => { x' with name := y.name }) F) = entOf F := by
      rw [hU, e1]
      unfold entOf
      simp [hn, hg]
    rw [h4, updK_length]
    exact ownsMap_same h.map (hc.block _ (h.lt _ h.inM) (fun hb => (h.neAF hxm hb).2 rfl))
  · intro y hy
    rw [hU] at hy
    rcases List.mem_append.1 hy with hy | hy
    · refine (h.files y (by rw [e1]; simp [hy])).same (fun b hb => hc.block b (hin b ?_) (fun hbx => ?_))
      · simp only [List.mem_cons, List.mem_append, List.mem_flatMap]; exact .inr (.inr (.inl ⟨y, hy, hb⟩))
      · rw [List.nodup_cons, List.nodup_cons, List.nodup_append] at hap
        exact hap.2.2.2.2 b (List.mem_flatMap.2 ⟨y, hy, hb⟩) b (List.mem_append.2 (.inl hbx)) rfl
    · rcases List.mem_cons.1 hy with rfl | hy
      · exact hw
      · refine (h.files y (by rw [e1]; simp [hy])).same (fun b hb => hc.block b (hin b ?_) (fun hbx => ?_))
        · simp only [List.mem_cons, List.mem_append, List.mem_flatMap]; exact .inr (.inr (.inr (.inr ⟨y, hy, hb⟩)))
        · rw [List.nodup_cons, List.nodup_cons, List.nodup_append] at hap
          have := hap.2.2.2.1
          rw [List.nodup_append] at this
          exact this.2.2 b hbx b (List.mem_flatMap.2 ⟨y, hy, hb⟩) rfl
  · rw [hU]
    simp only [List.flatMap_append, List.flatMap_cons]
    have := nodup_swap (A := a :: mb :: F1.flatMap Fl.foot) (X := x.foot) (Y := x'.foot) (B := F2.flatMap Fl.foot) (N := w.heap.size) hap hY hin hsub
    exact this
  · intro b hb
    rw [hU] at hb
    have hb' : b ∈ x'.foot ∨ b ∈ a :: mb :: F.flatMap Fl.foot := by
      rw [e1]
      simp only [List.flatMap_append, List.flatMap_cons, List.mem_cons, List.mem_append] at hb ⊢
      rcases hb with h | h | h | h | h
      · exact .inr (.inl h)
      · exact .inr (.inr (.inl h))
      · exact .inr (.inr (.inr (.inl h)))
      · exact .inl h
      · exact .inr (.inr (.inr (.inr (.inr h))))
    rcases hb' with hb' | hb'
    · rcases hsub b hb' with h1 | h1
      · exact .inl (h.inS b (by simp only [List.mem_cons, List.mem_flatMap]; exact .inr (.inr ⟨x, hxm, h1⟩)))
      · exact .inr ⟨h1, hlt' b hb'⟩
    · exact .inl (h.inS b hb')
  · have h5 := fndK_upd (key := Fl.key) (n := n) (m := n) (g := fun y => { x' with name := y.name }) (fun _ => rfl) F
    rw [h5, if_pos rfl, hx]
    show some ({ x' with name := x.name } : Fl) = some x'
    rw [← hn]

/-- A file is taken out of the map. -/
theorem DiskRep.del (h : DiskRep w S a mb F s) (n : List UInt8) (hm : w'.ownsMap Tryz.prog 9 ptrElem mb F.length (DataW.del (.map (entOf F)) (.string n))) (hc : Chg (fun b => b = mb) w w') :
    DiskRep w' S a mb (delK Fl.key n F) { s with L := delK AF.key n s.L } := by
  have hsub : ∀ b ∈ (delK Fl.key n F).flatMap Fl.foot, b ∈ F.flatMap Fl.foot := by
    intro b hb
    obtain ⟨x, hx, hb⟩ := List.mem_flatMap.1 hb
    exact List.mem_flatMap.2 ⟨x, (delK_mem.1 hx).1, hb⟩
  refine ⟨?_, ?_, ?_, ?_, ?_, ?_, fun b hb => by have := h.lt b hb; have := hc.size; omega, Ok_del h.ok n⟩
  · obtain ⟨left, hl1, hl2⟩ := h.head
    exact ⟨left, hl1.chg hc h.neAM, hl2⟩
  · show delK AF.key n s.L = _
    rw [h.abs]
    exact (delK_map (fun _ => rfl) n F).symm
  · rw [del_ent] at hm
    have := ownsMap_tight hm
    rwa [size_ent] at this
  · intro x hx
    have hxF := (delK_mem.1 hx).1
    refine (h.files x hxF).same (fun b hb => hc.block b (h.lt b (h.inS b ?_)) (h.neAF hxF hb).2)
    simp only [List.mem_cons, List.mem_flatMap]; exact .inr (.inr ⟨x, hxF, hb⟩)
  · have := h.apart
    refine List.Nodup.sublist ?_ this
    exact ((flatMap_sub _ List.filter_sublist).cons_cons mb).cons_cons a
  · intro b hb
    refine h.inS b ?_
    rcases List.mem_cons.1 hb with rfl | hb
    · simp
    · rcases List.mem_cons.1 hb with rfl | hb
      · simp
      · simp [hsub b hb]

/-- A file that the map does not have is put in; one of its name goes. -/
theorem DiskRep.put' (h : DiskRep w S a mb F s) {x : Fl} (hx : FileOk w x) (hxa : ∀ b ∈ x.foot, b ∉ a :: mb :: F.flatMap Fl.foot) (hxS : ∀ b ∈ x.foot, S b) {k : Nat} (hk : k < maxLen)
    (hm : w'.ownsMap Tryz.prog 9 ptrElem mb k (DataW.put (.map (entOf F)) (.string x.name) (.lit (.int .i64 (x.g : Int))))) (hc : Chg (fun b => b = mb) w w')
    (hok : ({ s with L := insK AF.key x.abs (delK AF.key x.name s.L) } : Dk).Ok) :
    DiskRep w' S a mb (insK Fl.key x (delK Fl.key x.name F)) { s with L := insK AF.key x.abs (delK AF.key x.name s.L) } := by
  have hY : x.foot.Nodup := by
    unfold Fl.foot
    cases hv : x.v.ownBlock with
    | none => simp
    | some b =>
      have := hx.apart
      rw [hv] at this
      simp; exact fun e => this (by rw [e])
  have hsub : ((a :: mb :: (delK Fl.key x.name F).flatMap Fl.foot)).Sublist (a :: mb :: F.flatMap Fl.foot) := ((flatMap_sub _ List.filter_sublist).cons_cons mb).cons_cons a
  have hp : (a :: mb :: (insK Fl.key x (delK Fl.key x.name F)).flatMap Fl.foot).Perm (x.foot ++ (a :: mb :: (delK Fl.key x.name F).flatMap Fl.foot)) := by
    have h1 : ((insK Fl.key x (delK Fl.key x.name F)).flatMap Fl.foot).Perm (x.foot ++ (delK Fl.key x.name F).flatMap Fl.foot) := by
      have := (insK_perm (key := Fl.key) x (delK Fl.key x.name F)).flatMap_right Fl.foot
      simpa using this
    refine ((h1.cons mb).cons a).trans ?_
    have : (a :: mb :: (x.foot ++ (delK Fl.key x.name F).flatMap Fl.foot)).Perm ([a, mb] ++ (x.foot ++ (delK Fl.key x.name F).flatMap Fl.foot)) := List.Perm.refl _
    refine this.trans ?_
    rw [← List.append_assoc]
    exact (List.perm_append_comm.append_right _).trans (by rw [List.append_assoc]; exact List.Perm.refl _)
  refine ⟨?_, ?_, ?_, ?_, ?_, ?_, fun b hb => by have := h.lt b hb; have := hc.size; omega, hok⟩
  · obtain ⟨left, hl1, hl2⟩ := h.head
    exact ⟨left, hl1.chg hc h.neAM, hl2⟩
  · show insK AF.key x.abs (delK AF.key x.name s.L) = _
    rw [h.abs, ← delK_map (key := Fl.key) (key' := AF.key) (h := Fl.abs) (fun _ => rfl) x.name F]
    exact (insK_map (fun _ => rfl) x _).symm
  · rw [put_ent] at hm
    have := ownsMap_tight hm
    rwa [size_ent] at this
  · intro y hy
    rcases insK_mem.1 hy with rfl | hy
    · refine hx.same (fun b hb => hc.block b (h.lt b (hxS b hb)) (fun e => ?_))
      exact hxa b hb (by rw [e]; simp)
    · have hy := (delK_mem.1 hy).1
      refine (h.files y hy).same (fun b hb => hc.block b (h.lt b (h.inS b ?_)) (h.neAF hy hb).2)
      simp only [List.mem_cons, List.mem_flatMap]; exact .inr (.inr ⟨y, hy, hb⟩)
  · refine hp.nodup_iff.2 ?_
    rw [List.nodup_append]
    exact ⟨hY, h.apart.sublist hsub, fun b hb c hc' e => hxa b hb (by rw [e]; exact hsub.subset hc')⟩
  · intro b hb
    rcases List.mem_append.1 (hp.mem_iff.1 hb) with hb | hb
    · exact hxS b hb
    · exact h.inS b (hsub.subset hb)
/-- .. where the map does not have the name. -/
theorem DiskRep.put (h : DiskRep w S a mb F s) {x : Fl} (hno : fndK Fl.key x.name F = none) (hx : FileOk w x) (hxa : ∀ b ∈ x.foot, b ∉ a :: mb :: F.flatMap Fl.foot) (hxS : ∀ b ∈ x.foot, S b) (hk : F.length + 1 < maxLen)
    (hm : w'.ownsMap Tryz.prog 9 ptrElem mb (F.length + 1) (DataW.put (.map (entOf F)) (.string x.name) (.lit (.int .i64 (x.g : Int))))) (hc : Chg (fun b => b = mb) w w')
    (hok : ({ s with L := insK AF.key x.abs s.L } : Dk).Ok) :
    DiskRep w' S a mb (insK Fl.key x F) { s with L := insK AF.key x.abs s.L } := by
  have hnA : fndK AF.key x.name s.L = none := by rw [h.fnd, hno]; rfl
  have e1 := delK_none hno
  have e2 := delK_none hnA
  have := h.put' hx hxa hxS hk hm hc (by rw [e2]; exact hok)
  rwa [e1, e2] at this
end
end Go.Proofs.YtbccikefccdekaaGreatDoor

/-
  LAYER 2 (disk), the program's small calls: Name, at, Dead, Fuse, spend, find, hasTail.
-/
namespace Go.Proofs.YtbccikefccdekaaGreatDoor
open Go.RowKit Go.Maps
set_option linter.unusedVariables false
set_option maxRecDepth 100000

theorem isName_bad {s : ByteArray} {k : Nat} (hk : k < s.size) (h : nameByte (s[k]'hk) = false) : isName s.data.toList = false := by
  unfold isName
  have : s.data.toList.all nameByte = false := by
    rw [List.all_eq_false]
    exact ⟨s[k], by rw [show s[k] = s.data.toList[k]'(by simpa using hk) from rfl]; exact List.getElem_mem _, by rw [h]; simp⟩
  rw [this]; simp
theorem all_snoc {s : ByteArray} {k : Nat} (hk : k < s.size) (h : (s.data.toList.take k).all nameByte = true) (hc : nameByte (s[k]'hk) = true) : (s.data.toList.take (k + 1)).all nameByte = true := by
  rw [List.take_succ_eq_append_getElem (by simpa using hk), List.all_append, h]
  simp
  exact hc
theorem isName_all {s : ByteArray} (h : (s.data.toList.take s.size).all nameByte = true) : isName s.data.toList = (decide (1 ≤ s.size) && decide (s.size ≤ 24)) := by
  unfold isName
  rw [List.take_of_length_le (by rw [str_len]; exact Nat.le_refl _)] at h
  rw [h, str_len]
  simp [Bool.decide_and]
theorem ret_bool {a b : Bool} (h : a = b) : Ending.returned (.bool a) = .returned (.bool b) := by rw [h]

theorem nameByte_cases (c : UInt8) : (nameByte c = true ∧ ((97 ≤ (c.toNat : Int) ∧ (c.toNat : Int) ≤ 122) ∨ (48 ≤ (c.toNat : Int) ∧ (c.toNat : Int) ≤ 57))) ∨
    (nameByte c = false ∧ ((c.toNat : Int) < 48 ∨ (57 < (c.toNat : Int) ∧ (c.toNat : Int) < 97) ∨ 122 < (c.toNat : Int))) := by
  unfold nameByte
  by_cases h : 97 ≤ (c.toNat : Int) ∧ (c.toNat : Int) ≤ 122 ∨ 48 ≤ (c.toNat : Int) ∧ (c.toNat : Int) ≤ 57
  · exact .inl ⟨by simp only [h, decide_true], h⟩
  · exact .inr ⟨by simp only [h, decide_false], by omega⟩

set_option maxHeartbeats 1000000 in
theorem name_any (s : ByteArray) (w : World) (hs : s.size ≤ maxLen) :
    Calls Tryz.prog 84 #[.string s] w fun e w' => e = .returned (.bool (isName s.data.toList)) ∧ w = w' := by
  unfold maxLen at hs
  go_enter Tryz.func84, Tryz.ntmps84
  go_wp2
  go_loop [7] (fun i => ∃ k : Nat, k ≤ s.size ∧ i = .int .i64 k ∧ Hid ((s.data.toList.take k).all nameByte = true)) (fun i => s.size - (intOf i).toNat)
  case atStart => exact ⟨0, Nat.zero_le _, rfl, hid (by simp)⟩
  case round =>
    obtain ⟨k, hk, rfl, hall⟩ := hrel
    by_cases hlt : k < s.size
    · have hc := nameByte_cases s[k]
      have hb : (s[k].toNat : Int) < 256 := by have := UInt8.toNat_lt s[k]; omega
      rcases hc with ⟨hc, h⟩ | ⟨hc, h⟩
      · have H := hid hc
        clear hc
        rcases h with ⟨h1, h2⟩ | ⟨h1, h2⟩
        · go_wp2
          go_round
          case rel => exact ⟨k + 1, by omega, by go_num, hid (all_snoc hlt hall.out H.out)⟩
          case measure => simp [intOf]; omega
        · have h3 : (s[k].toNat : Int) < 97 := by omega
          go_wp2
          go_round
          case rel => exact ⟨k + 1, by omega, by go_num, hid (all_snoc hlt hall.out H.out)⟩
          case measure => simp [intOf]; omega
      · have H := hid hc
        clear hc
        rcases h with h | ⟨h1, h2⟩ | h
        · go_wp2
          go_ret
          exact ⟨ret_bool (isName_bad hlt H.out).symm, rfl⟩
        · have d1 : decide ((s[k].toNat : Int) ≤ 57) = false := by simp; omega
          go_wp2
          go_ret
          exact ⟨ret_bool (isName_bad hlt H.out).symm, rfl⟩
        · have d1 : decide ((s[k].toNat : Int) ≤ 57) = false := by simp; omega
          have d2 : decide ((s[k].toNat : Int) ≤ 122) = false := by simp; omega
          have d3 : decide (97 ≤ (s[k].toNat : Int)) = true := by simp; omega
          have d4 : decide (48 ≤ (s[k].toNat : Int)) = true := by simp; omega
          go_wp2
          go_ret
          exact ⟨ret_bool (isName_bad hlt H.out).symm, rfl⟩
    · obtain rfl : k = s.size := by omega
      have hfin := hid (isName_all hall.out)
      by_cases h1 : 1 ≤ s.size
      · have d1 : decide (1 ≤ (s.size : Int)) = true := by simp; omega
        by_cases h2 : s.size ≤ 24
        · have d2 : decide ((s.size : Int) ≤ 24) = true := by simp; omega
          go_wp2
          go_ret
          exact ⟨ret_bool (by rw [hfin.out]; simp [h1, h2]), rfl⟩
        · have d2 : decide ((s.size : Int) ≤ 24) = false := by simp; omega
          go_wp2
          go_ret
          exact ⟨ret_bool (by rw [hfin.out]; simp [h2]), rfl⟩
      · have d1 : decide (1 ≤ (s.size : Int)) = false := by simp; omega
        go_wp2
        go_ret
        exact ⟨ret_bool (by rw [hfin.out]; simp [h1]), rfl⟩

def spendV (f : Int) : Int := if f = 0 then 7 else 0
def ticked (s : Dk) : Dk := { s with fuse := if 0 < s.fuse then s.fuse - 1 else s.fuse }
def spendTo (s : Dk) : Dk := if s.fuse = 0 then { s with dead := true } else ticked s
def FindV (s : Dk) (F : List Fl) (n : List UInt8) : Value := if s.dead then .tuple #[.pointer none, .int .i64 7] else match fndK Fl.key n F with | none => .tuple #[.pointer none, .int .i64 4] | some x => .tuple #[x.ptr, .int .i64 0]
theorem spends_eq (s : Dk) (k : Dk → Dk) : spends s k = if s.fuse = 0 then (spendTo s, 7) else (k (ticked s), 0) := by
  unfold spends spendTo ticked
  split <;> rfl

section
variable {w w' : World} {S : Nat → Prop} {a mb : Nat} {F : List Fl} {s : Dk}

theorem dead_any (h : DiskRep w S a mb F s) : Calls Tryz.prog 18 #[.pointer (some ⟨a, 0, none⟩)] w fun e w' => e = .returned (.bool s.dead) ∧ w = w' := by
  obtain ⟨left, hw, _⟩ := h.head
  have c4 := hw.cell 4
  simp at c4
  go_enter Tryz.func18, Tryz.ntmps18
  go_wp2
  go_ret
  exact ⟨rfl, rfl⟩

/-- What 'spend' leaves: what the rest of the call goes on from. -/
theorem spend_any (h : DiskRep w S a mb F s) : Calls Tryz.prog 86 #[.pointer (some ⟨a, 0, none⟩)] w fun e w' =>
    e = .returned (.int .i64 (spendV s.fuse)) ∧ DiskRep w' S a mb F (spendTo s) ∧ Chg (fun b => b = a) w w' ∧ w'.heap.size = w.heap.size := by
  obtain ⟨left, hw, hl⟩ := h.head
  have hf := h.ok.fuse
  by_cases h0 : 0 ≤ s.fuse
  · have hb : decide (0 ≤ s.fuse) = true := by simpa using h0
    have hl' := hl h0
    subst hl'
    by_cases h1 : s.fuse = 0
    · have c2 := hw.cell 2
      have c3 := hw.cell 3
      have c4 := hw.cell 4
      have f4 := hw.frozen 4
      rw [hb] at c2
      rw [h1] at c3
      simp at c2 c3 c4
      have hset := hw.set 4 (.bool true)
      have hc := Chg.setCell w ⟨a, 4, none⟩ (.bool true)
      have hz := setCell_size w ⟨a, 4, none⟩ (.bool true)
      have hD : DiskRep (w.setCell ⟨a, 4, none⟩ (.bool true)) S a mb F { s with dead := true } := h.turn (fu := s.fuse) (left := s.fuse) (dd := true) (by simpa using hset) (fun _ => rfl) hc hf
      have hv : spendTo s = { s with dead := true } := if_pos h1
      have hv2 : spendV s.fuse = 7 := if_pos h1
      rw [← hv] at hD
      have H := hid (show _ ∧ _ ∧ _ from ⟨hD, hc, hz⟩)
      have H1 := hid hv2
      clear hset hc hz hD h1 hb hw h hf hl h0 hv hv2
      generalize spendTo s = s' at *
      go_enter Tryz.func86, Tryz.ntmps86
      go_wp2
      go_ret
      rw [H1.out]
      exact ⟨rfl, H.out.1, H.out.2.1, H.out.2.2⟩
    · have c2 := hw.cell 2
      have c3 := hw.cell 3
      have f3 := hw.frozen 3
      rw [hb] at c2
      simp at c2 c3
      have hset := hw.set 3 (.int .i64 (s.fuse - 1))
      have hc := Chg.setCell w ⟨a, 3, none⟩ (.int .i64 (s.fuse - 1))
      have hz := setCell_size w ⟨a, 3, none⟩ (.int .i64 (s.fuse - 1))
      have hb2 : decide (0 ≤ s.fuse - 1) = true := by simp; omega
      have hD : DiskRep (w.setCell ⟨a, 3, none⟩ (.int .i64 (s.fuse - 1))) S a mb F { s with fuse := if 0 < s.fuse then s.fuse - 1 else s.fuse } := by
        rw [if_pos (by omega)]
        exact h.turn (fu := s.fuse - 1) (left := s.fuse - 1) (dd := s.dead) (by rw [hb2]; rw [hb] at hset; simpa using hset) (fun _ => rfl) hc (by omega)
      have hv : spendTo s = { s with fuse := if 0 < s.fuse then s.fuse - 1 else s.fuse } := if_neg h1
      have hv2 : spendV s.fuse = 0 := if_neg h1
      rw [← hv] at hD
      have H := hid (show _ ∧ _ ∧ _ from ⟨hD, hc, hz⟩)
      have H1 := hid hv2
      have hp : 0 < s.fuse := by omega
      have hq : s.fuse ≤ 9223372036854775807 := hf.2
      clear hset hc hz hD h1 hb hw h hf hl h0 hb2 hv hv2
      generalize spendTo s = s' at *
      generalize s.fuse = z at *
      go_enter Tryz.func86, Tryz.ntmps86
      go_wp2
      go_ret
      rw [H1.out]
      exact ⟨rfl, H.out.1, H.out.2.1, H.out.2.2⟩
  · have hb : decide (0 ≤ s.fuse) = false := by simpa using h0
    have c2 := hw.cell 2
    rw [hb] at c2
    simp at c2
    have h1 : ¬ s.fuse = 0 := by omega
    have h2 : ¬ 0 < s.fuse := by omega
    have hs : spendTo s = s := by unfold spendTo ticked; rw [if_neg h1, if_neg h2]
    have hs2 : spendV s.fuse = 0 := if_neg h1
    rw [hs, hs2]
    have H := hid h
    clear hb hw h hf hl h0 h1 h2 hs hs2
    go_enter Tryz.func86, Tryz.ntmps86
    go_wp2
    go_ret
    exact ⟨rfl, H.out, Chg.refl _ _, rfl⟩

theorem keyedStr : Keyed Tryz.prog 9 := string_keyed Tryz.underlying9
theorem keyStr (n : ByteArray) (hn : n.size ≤ maxLen) : keyOf Tryz.prog 9 (.string n) = some (.string n.data.toList) := Go.WideMaps.keyOf_string_mk Tryz.underlying9 hn
theorem zeroPtr (w : World) : (zeroValue 73).run Tryz.prog w = .ok (.pointer none) w := by kernel_rfl

/-- The look-up 'd.files[name]', the two ways. -/
theorem look_some (h : DiskRep w S a mb F s) {n : ByteArray} (hn : n.size ≤ maxLen) {x : Fl} (hx : fndK Fl.key n.data.toList F = some x) :
    (Instr.lookup 69 (.map (some mb)) (.string n) true).run Tryz.prog w = .ok (.tuple #[x.ptr, .bool true]) w := by
  obtain ⟨v, ps, hrun, hv⟩ := h.map.look_ok keyedStr Tryz.underlying69 (zeroPtr w) (zd := .nil) (zp := []) rfl (keyStr n hn)
  rw [has_ent, hx] at hrun
  rw [atKey_ent, hx] at hv
  obtain rfl := ptrElem_inv hv
  exact hrun
theorem look_none (h : DiskRep w S a mb F s) {n : ByteArray} (hn : n.size ≤ maxLen) (hx : fndK Fl.key n.data.toList F = none) :
    (Instr.lookup 69 (.map (some mb)) (.string n) true).run Tryz.prog w = .ok (.tuple #[.pointer none, .bool false]) w := by
  obtain ⟨v, ps, hrun, hv⟩ := h.map.look_ok keyedStr Tryz.underlying69 (zeroPtr w) (zd := .nil) (zp := []) rfl (keyStr n hn)
  rw [has_ent, hx] at hrun
  rw [atKey_ent, hx] at hv
  obtain rfl := ptrElem_nil hv
  exact hrun

theorem find_any (h : DiskRep w S a mb F s) (n : ByteArray) (hn : n.size ≤ maxLen) : Calls Tryz.prog 88 #[.pointer (some ⟨a, 0, none⟩), .string n] w fun e w' =>
    e = .returned (FindV s F n.data.toList) ∧ w = w' := by
  obtain ⟨left, hw, _⟩ := h.head
  have c4 := hw.cell 4
  have c1 := hw.cell 1
  simp at c4 c1
  cases hd : s.dead with
  | true =>
    rw [hd] at c4
    have hv : FindV s F n.data.toList = .tuple #[.pointer none, .int .i64 7] := by unfold FindV; rw [hd]; rfl
    rw [hv]
    clear hd hv
    go_enter Tryz.func88, Tryz.ntmps88
    go_wp2
    go_ret2
    exact ⟨rfl, rfl⟩
  | false =>
    rw [hd] at c4
    cases hx : fndK Fl.key n.data.toList F with
    | none =>
      have hl := look_none h hn hx
      have hv : FindV s F n.data.toList = .tuple #[.pointer none, .int .i64 4] := by unfold FindV; rw [hd, hx]; rfl
      rw [hv]
      clear hd hx hv
      go_enter Tryz.func88, Tryz.ntmps88
      go_wp2
      go_ret2
      exact ⟨rfl, rfl⟩
    | some x =>
      have hl := look_some h hn hx
      have hv : FindV s F n.data.toList = .tuple #[x.ptr, .int .i64 0] := by unfold FindV; rw [hd, hx]; rfl
      rw [hv]
      clear hd hx hv
      unfold Fl.ptr at *
      go_enter Tryz.func88, Tryz.ntmps88
      go_wp2
      go_ret2
      exact ⟨rfl, rfl⟩
end
end Go.Proofs.YtbccikefccdekaaGreatDoor

/-
  slices.Sorted(maps.Keys(m)) at the disk's map: the library's contracts, laid (the tables of numbers in plain words).
-/
namespace Go.Proofs.YtbccikefccdekaaGreatDoor
open Go.Shelf
set_option maxRecDepth 100000
def Tryz.keysA_ren : Go.Shelf.Ren := ⟨fun | 7 => 44 | 10 => 73 | n => n, fun | 23 => 69 | 26 => 9 | 3 => 73 | 28 => 53 | 0 => 0 | 27 => 52 | 33 => 83 | 4 => 4 | n => n, fun | n => n⟩
theorem Tryz.keysA : Go.Proofs.SlLaysZ.n7 Tryz.prog Tryz.keysA_ren := {
  mixed := by kernel_rfl
  f7 := ⟨Tryz.f44.name, by decide, Tryz.func44.trans (congrArg some (by kernel_rfl))⟩
  f10 := ⟨Tryz.f73.name, by decide, Tryz.func73.trans (congrArg some (by kernel_rfl))⟩
  t0 := Tryz.underlying0
  a0 := Tryz.isAgg0
  z0 := Tryz.sizeOf0
  v0 := Tryz.zeroValue0
  t4 := Tryz.underlying4
  a4 := Tryz.isAgg4
  z4 := Tryz.sizeOf4
  v4 := Tryz.zeroValue4
  t23 := Tryz.underlying69
  a23 := Tryz.isAgg69
  z23 := Tryz.sizeOf69
  v23 := Tryz.zeroValue69
  t26 := Tryz.underlying9
  a26 := Tryz.isAgg9
  z26 := Tryz.sizeOf9
  v26 := Tryz.zeroValue9
  t27 := Tryz.underlying52
  a27 := Tryz.isAgg52
  z27 := Tryz.sizeOf52
  v27 := Tryz.zeroValue52
  t28 := Tryz.underlying53
  a28 := Tryz.isAgg53
  z28 := Tryz.sizeOf53
  v28 := Tryz.zeroValue53
  t33 := Tryz.underlying83
  a33 := Tryz.isAgg83
  z33 := Tryz.sizeOf83
  v33 := Tryz.zeroValue83 }
def Tryz.sortedA_ren : Go.Shelf.Ren := ⟨fun | 6 => 43 | 8 => 71 | 9 => 72 | 11 => 104 | 13 => 67 | 12 => 105 | 23 => 100 | 24 => 101 | 14 => 120 | 15 => 121 | 16 => 122 | 17 => 123 | 18 => 124 | 19 => 125 | 20 => 126 | 21 => 127 | 22 => 128 | 25 => 139 | 26 => 114 | 27 => 115 | 28 => 140 | 29 => 141 | 30 => 142 | 31 => 149 | n => n, fun | 26 => 9 | 28 => 53 | 24 => 46 | 0 => 0 | 3 => 3 | 37 => 103 | 48 => 112 | 50 => 109 | 4 => 4 | 40 => 122 | 39 => 121 | 45 => 126 | 5 => 5 | 9 => 9 | 51 => 138 | 55 => 142 | 57 => 153 | 58 => 154 | 33 => 83 | n => n, fun | n => n⟩
theorem Tryz.sortedA : Go.Proofs.SlLaysZ.n6 Tryz.prog Tryz.sortedA_ren := {
  mixed := by kernel_rfl
  f6 := ⟨Tryz.f43.name, by decide, Tryz.func43.trans (congrArg some (by kernel_rfl))⟩
  f8 := ⟨Tryz.f71.name, by decide, Tryz.func71.trans (congrArg some (by kernel_rfl))⟩
  f11 := ⟨Tryz.f104.name, by decide, Tryz.func104.trans (congrArg some (by kernel_rfl))⟩
  t0 := Tryz.underlying0
  a0 := Tryz.isAgg0
  z0 := Tryz.sizeOf0
  v0 := Tryz.zeroValue0
  t24 := Tryz.underlying46
  a24 := Tryz.isAgg46
  z24 := Tryz.sizeOf46
  v24 := Tryz.zeroValue46
  t26 := Tryz.underlying9
  a26 := Tryz.isAgg9
  z26 := Tryz.sizeOf9
  v26 := Tryz.zeroValue9
  t28 := Tryz.underlying53
  a28 := Tryz.isAgg53
  z28 := Tryz.sizeOf53
  v28 := Tryz.zeroValue53
  i26 := by kernel_rfl }
def Tryz.sortA_ren : Go.Shelf.Ren := ⟨fun | 6 => 72 | 8 => 67 | 9 => 105 | 19 => 100 | 20 => 101 | 21 => 120 | 22 => 121 | 23 => 122 | 24 => 123 | 25 => 124 | 26 => 125 | 27 => 126 | 28 => 127 | 29 => 128 | 36 => 139 | 31 => 114 | 32 => 115 | 37 => 140 | 38 => 141 | 39 => 142 | 41 => 149 | n => n, fun | 27 => 46 | 29 => 9 | 3 => 3 | 32 => 103 | 26 => 46 | 0 => 0 | 44 => 112 | 46 => 109 | 4 => 4 | 36 => 122 | 35 => 121 | 41 => 126 | 5 => 5 | 9 => 9 | 53 => 138 | 57 => 142 | 63 => 153 | 64 => 154 | n => n, fun | n => n⟩
theorem Tryz.sortA : Go.Proofs.SlLaysM.n6 Tryz.prog Tryz.sortA_ren := {
  mixed := by kernel_rfl
  f6 := ⟨Tryz.f72.name, by decide, Tryz.func72.trans (congrArg some (by kernel_rfl))⟩
  f8 := Tryz.func67.trans (congrArg some (by kernel_rfl))
  f9 := ⟨Tryz.f105.name, by decide, Tryz.func105.trans (congrArg some (by kernel_rfl))⟩
  f19 := Tryz.func100.trans (congrArg some (by kernel_rfl))
  f20 := Tryz.func101.trans (congrArg some (by kernel_rfl))
  f21 := ⟨Tryz.f120.name, by decide, Tryz.func120.trans (congrArg some (by kernel_rfl))⟩
  f22 := ⟨Tryz.f121.name, by decide, Tryz.func121.trans (congrArg some (by kernel_rfl))⟩
  f23 := ⟨Tryz.f122.name, by decide, Tryz.func122.trans (congrArg some (by kernel_rfl))⟩
  f24 := ⟨Tryz.f123.name, by decide, Tryz.func123.trans (congrArg some (by kernel_rfl))⟩
  f25 := ⟨Tryz.f124.name, by decide, Tryz.func124.trans (congrArg some (by kernel_rfl))⟩
  f26 := ⟨Tryz.f125.name, by decide, Tryz.func125.trans (congrArg some (by kernel_rfl))⟩
  f27 := ⟨Tryz.f126.name, by decide, Tryz.func126.trans (congrArg some (by kernel_rfl))⟩
  f28 := ⟨Tryz.f127.name, by decide, Tryz.func127.trans (congrArg some (by kernel_rfl))⟩
  f29 := ⟨Tryz.f128.name, by decide, Tryz.func128.trans (congrArg some (by kernel_rfl))⟩
  f31 := Tryz.func114.trans (congrArg some (by kernel_rfl))
  f32 := Tryz.func115.trans (congrArg some (by kernel_rfl))
  f36 := ⟨Tryz.f139.name, by decide, Tryz.func139.trans (congrArg some (by kernel_rfl))⟩
  f37 := ⟨Tryz.f140.name, by decide, Tryz.func140.trans (congrArg some (by kernel_rfl))⟩
  f38 := ⟨Tryz.f141.name, by decide, Tryz.func141.trans (congrArg some (by kernel_rfl))⟩
  f39 := ⟨Tryz.f142.name, by decide, Tryz.func142.trans (congrArg some (by kernel_rfl))⟩
  f41 := ⟨Tryz.f149.name, by decide, Tryz.func149.trans (congrArg some (by kernel_rfl))⟩
  t0 := Tryz.underlying0
  a0 := Tryz.isAgg0
  z0 := Tryz.sizeOf0
  v0 := Tryz.zeroValue0
  t3 := Tryz.underlying3
  a3 := Tryz.isAgg3
  z3 := Tryz.sizeOf3
  v3 := Tryz.zeroValue3
  t4 := Tryz.underlying4
  a4 := Tryz.isAgg4
  z4 := Tryz.sizeOf4
  v4 := Tryz.zeroValue4
  t5 := Tryz.underlying5
  a5 := Tryz.isAgg5
  z5 := Tryz.sizeOf5
  v5 := Tryz.zeroValue5
  t9 := Tryz.underlying9
  a9 := Tryz.isAgg9
  z9 := Tryz.sizeOf9
  v9 := Tryz.zeroValue9
  t26 := Tryz.underlying46
  a26 := Tryz.isAgg46
  z26 := Tryz.sizeOf46
  v26 := Tryz.zeroValue46
  t27 := Tryz.underlying46
  a27 := Tryz.isAgg46
  z27 := Tryz.sizeOf46
  v27 := Tryz.zeroValue46
  t29 := Tryz.underlying9
  a29 := Tryz.isAgg9
  z29 := Tryz.sizeOf9
  v29 := Tryz.zeroValue9
  t32 := Tryz.underlying103
  a32 := Tryz.isAgg103
  z32 := Tryz.sizeOf103
  v32 := Tryz.zeroValue103
  t35 := Tryz.underlying121
  a35 := Tryz.isAgg121
  z35 := Tryz.sizeOf121
  v35 := Tryz.zeroValue121
  t36 := Tryz.underlying122
  a36 := Tryz.isAgg122
  z36 := Tryz.sizeOf122
  v36 := Tryz.zeroValue122
  t41 := Tryz.underlying126
  a41 := Tryz.isAgg126
  z41 := Tryz.sizeOf126
  v41 := Tryz.zeroValue126
  t44 := Tryz.underlying112
  a44 := Tryz.isAgg112
  z44 := Tryz.sizeOf112
  v44 := Tryz.zeroValue112
  t46 := Tryz.underlying109
  a46 := Tryz.isAgg109
  z46 := Tryz.sizeOf109
  v46 := Tryz.zeroValue109
  t53 := Tryz.underlying138
  a53 := Tryz.isAgg138
  z53 := Tryz.sizeOf138
  v53 := Tryz.zeroValue138
  t57 := Tryz.underlying142
  a57 := Tryz.isAgg142
  z57 := Tryz.sizeOf142
  v57 := Tryz.zeroValue142
  t63 := Tryz.underlying153
  a63 := Tryz.isAgg153
  z63 := Tryz.sizeOf153
  v63 := Tryz.zeroValue153
  t64 := Tryz.underlying154
  a64 := Tryz.isAgg154
  z64 := Tryz.sizeOf154
  v64 := Tryz.zeroValue154 }

end Go.Proofs.YtbccikefccdekaaGreatDoor

/-
  LAYER 2 (disk), the program's calls that read: Read, Size, List.
-/
namespace Go.Proofs.YtbccikefccdekaaGreatDoor
open Go.RowKit Go.Maps
set_option linter.unusedVariables false
set_option maxRecDepth 100000

/-- string(f.data). -/
theorem file_string {w : World} {x : Fl} (h : FileOk w x) : (convert 33 9 x.v).run Tryz.prog w = .ok (.string (mk x.data)) w := by
  by_cases h0 : x.data = []
  · obtain ⟨ao, cap, hv⟩ := h.slice
    rw [hv, h0]
    have := run_convert_bytes_arg (P := Tryz.prog) w 33 5 Tryz.underlying33 Tryz.underlying5 0 0 0 0 [] rfl (fun i hi => by omega) 9 Tryz.underlying9
    cases ao with
    | none => rfl
    | some q =>
      have hb : (∃ g, q = ⟨g, 0, none⟩) := by
        rcases h.row.2 with ⟨hv', _⟩ | ⟨g, cap', cur, hv', _⟩
        · rw [hv] at hv'; simp at hv'
        · rw [hv] at hv'; simp at hv'; exact ⟨g, hv'.1⟩
      obtain ⟨g, rfl⟩ := hb
      have := run_convert_bytes_arg (P := Tryz.prog) w 33 5 Tryz.underlying33 Tryz.underlying5 g 0 0 cap [] rfl (fun i hi => by omega) 9 Tryz.underlying9
      exact this
  · obtain ⟨g, cap, hv, _, _, _, _, hc, _⟩ := h.row.shape h0
    rw [hv]
    exact run_string rfl hc

section
variable {w w' : World} {S : Nat → Prop} {a mb : Nat} {F : List Fl} {s : Dk}

def ReadV (r : List UInt8 × Int) : Value := .tuple #[.string (mk r.1), .int .i64 r.2]
theorem read_any (h : DiskRep w S a mb F s) (n : ByteArray) (hn : n.size ≤ maxLen) : Calls Tryz.prog 70 #[.pointer (some ⟨a, 0, none⟩), .string n] w fun e w' =>
    e = .returned (ReadV (rd s n.data.toList)) ∧ w = w' := by
  have hfind := fun w h => find_any (w := w) (S := S) (a := a) (mb := mb) (F := F) (s := s) h n hn
  cases hd : s.dead with
  | true =>
    have hv : FindV s F n.data.toList = .tuple #[.pointer none, .int .i64 7] := by unfold FindV; rw [hd]; rfl
    have hr : ReadV (rd s n.data.toList) = .tuple #[.string ⟨#[]⟩, .int .i64 7] := by unfold rd; rw [hd]; rfl
    rw [hv] at hfind
    rw [hr]
    have H := hid h
    have HF := hid hfind
    clear hd hv hr hfind h
    go_enter Tryz.func70, Tryz.ntmps70
    go_wp2_with (go_at_call 88; (with_reducible refine (HF.out _ H.out).mono ?_); rintro e w1 ⟨rfl, rfl⟩)
    go_ret2
    exact ⟨rfl, rfl⟩
  | false =>
    have hfa := h.fnd n.data.toList
    cases hx : fndK Fl.key n.data.toList F with
    | none =>
      rw [hx] at hfa
      have hv : FindV s F n.data.toList = .tuple #[.pointer none, .int .i64 4] := by unfold FindV; rw [hd, hx]; rfl
      have hr : ReadV (rd s n.data.toList) = .tuple #[.string ⟨#[]⟩, .int .i64 4] := by unfold rd; rw [hd, hfa]; rfl
      rw [hv] at hfind
      rw [hr]
      have H := hid h
      have HF := hid hfind
      clear hd hv hr hfind h hx hfa
      go_enter Tryz.func70, Tryz.ntmps70
      go_wp2_with (go_at_call 88; (with_reducible refine (HF.out _ H.out).mono ?_); rintro e w1 ⟨rfl, rfl⟩)
      go_ret2
      exact ⟨rfl, rfl⟩
    | some x =>
      rw [hx] at hfa
      have hv : FindV s F n.data.toList = .tuple #[x.ptr, .int .i64 0] := by unfold FindV; rw [hd, hx]; rfl
      have hr : ReadV (rd s n.data.toList) = .tuple #[.string (mk x.data), .int .i64 0] := by unfold rd; rw [hd, hfa]; rfl
      rw [hv] at hfind
      rw [hr]
      have hf := h.files x (fndK_some hx).1
      have c0 := hf.blk.cell 0
      simp at c0
      have hs := file_string hf
      have H := hid h
      have HF := hid hfind
      clear hd hv hr hfind h hx hfa hf
      unfold Fl.ptr at *
      generalize mk x.data = z at *
      go_enter Tryz.func70, Tryz.ntmps70
      go_wp2_with (go_at_call 88; (with_reducible refine (HF.out _ H.out).mono ?_); rintro e w1 ⟨rfl, rfl⟩)
      go_ret2
      exact ⟨rfl, rfl⟩

/-! ### Size -/
/-- What the range has met: the files whose names are not left. -/
def met (left : Lit → Bool) (F : List Fl) : Nat := ((F.filter fun x => !left (.string x.name)).map fun x => x.data.length).sum
theorem met_all {left : Lit → Bool} (h : ∀ kl, left kl = false) (F : List Fl) : met left F = sz (F.map Fl.abs) := by
  unfold met sz
  rw [List.filter_eq_self.2 (fun x _ => by simp [h])]
  simp [List.map_map, Function.comp_def, Fl.abs]
theorem met_none (F : List Fl) : met (Maps.has (.map (entOf F))) F = 0 := by
  unfold met
  have : F.filter (fun x => !Maps.has (.map (entOf F)) (.string x.name)) = [] := by
    rw [List.filter_eq_nil_iff]
    intro x hx
    rw [has_ent]
    have : (fndK Fl.key x.name F).isSome = true := by
      unfold fndK
      rw [List.find?_isSome]
      exact ⟨x, hx, by simp⟩
    simp [this]
  rw [this]; rfl
theorem met_step {left : Lit → Bool} {x : Fl} : ∀ {F : List Fl}, RiseK Fl.key F → x ∈ F → left (.string x.name) = true → met (fun z => left z && !z.sameKey (.string x.name)) F = met left F + x.data.length
  | [], _, h, _ => by cases h
  | y :: r, hr, h, hl => by
    obtain ⟨h1, h2⟩ := List.pairwise_cons.1 hr
    have hcons : ∀ (lf : Lit → Bool), met lf (y :: r) = (if lf (.string y.name) = true then 0 else y.data.length) + met lf r := by
      intro lf
      unfold met
      by_cases hb : lf (.string y.name) = true
      · rw [List.filter_cons_of_neg (by simp [hb]), if_pos hb]; omega
      · rw [List.filter_cons_of_pos (by simpa using hb), if_neg hb]; simp
    rw [hcons, hcons]
    by_cases hxy : x = y
    · subst hxy
      have hrest : met (fun z => left z && !z.sameKey (.string x.name)) r = met left r := by
        unfold met
        congr 2
        apply List.filter_congr
        intro z hz
        have : z.name ≠ x.name := fun e => blt_ne (h1 z hz) e.symm
        simp [sameKey_string, this]
      rw [hrest, if_neg (by simp [sameKey_string]), if_pos hl]; omega
    · have hxr : x ∈ r := by
        rcases List.mem_cons.1 h with e | e
        · exact absurd e hxy
        · exact e
      have hne : y.name ≠ x.name := blt_ne (h1 x hxr)
      rw [met_step h2 hxr hl]
      have : (left (.string y.name) && !(Lit.string y.name).sameKey (.string x.name)) = left (.string y.name) := by simp [sameKey_string, hne]
      simp only [this]; omega
theorem met_le (left : Lit → Bool) (F : List Fl) : met left F ≤ sz (F.map Fl.abs) := by
  induction F with
  | nil => simp [met, sz]
  | cons y r ih =>
    unfold met sz at *
    by_cases hb : left (.string y.name) = true
    · rw [List.filter_cons_of_neg (by simp [hb])]; simp at ih ⊢; omega
    · rw [List.filter_cons_of_pos (by simpa using hb)]; simp [Fl.abs] at ih ⊢; omega

set_option maxHeartbeats 2000000 in
theorem size_any (h : DiskRep w S a mb F s) : Calls Tryz.prog 85 #[.pointer (some ⟨a, 0, none⟩)] w fun e w' => e = .returned (.int .i64 (sz s.L)) ∧ Below w.heap.size w w' := by
  obtain ⟨left, hw, _⟩ := h.head
  have c1 := hw.cell 1
  simp at c1
  have hown := h.map
  have hrise := h.rise
  have htot : sz s.L ≤ 10000000 := by have := h.ok.room; have := h.ok.most; omega
  have hfiles := hid h.files
  rw [h.abs] at htot ⊢
  have hlt : a < w.heap.size := hw.lt
  clear hw h
  go_enter Tryz.func85, Tryz.ntmps85
  go_wp2_with (first
    | (at_range; refine wpList_range_own _ rfl _ 69 rfl 9 73 keyedStr Tryz.underlying69 ptrElem mb F.length _ rfl hown ?_; intro w0 hrg0 hg0 hs0)
    | go_in)
  go_frame
  have hb0 : Below w.heap.size w w0 := ⟨hg0.os, hg0.tape, hg0.output, hg0.size, fun k hk => hg0.block k hk (by simp)⟩
  clear hg0
  go_loopw [3] (fun u wr => ∃ (left : Lit → Bool) (cnt : Nat), wr.ranges Tryz.prog 9 ptrElem mb w.heap.size F.length (.map (entOf F)) left cnt ∧ u = .int .i64 (met left F : Int) ∧ Below w.heap.size w wr)
    (fun _ wr => wr.rangeLeft mb w.heap.size)
  case atStart => exact ⟨_, _, hrg0, by rw [met_none]; rfl, hb0⟩
  case round =>
    obtain ⟨left, cnt, hrg, rfl, hbw⟩ := hrel
    go_wp2_with (first
      | (at_next; refine wpList_next_ranges (α := List UInt8) (β := Value) _ rfl _ rfl 9 keyedStr ptrElem encStr (fun v => v) (fun key kl hk => by obtain ⟨x, hx, _⟩ := Maps.keyOf_str Tryz.underlying9 hk; exact ⟨x, hx⟩) (fun v y _ => ⟨v, rfl⟩) mb w.heap.size F.length _ _ _ rfl hrg ?_ ?_)
      | go_in)
    · intro _ hl0
      go_wp2
      go_ret
      exact ⟨by rw [met_all hl0]; rfl, hbw⟩
    · intro n c kl y1 y2 w1 cnt1 hkey hlk hc hat hrg1 hlt1 hg1 hs1 hen
      obtain ⟨x0, hx0, hkl, _⟩ := Maps.keyOf_str Tryz.underlying9 hkey
      obtain rfl : n = x0 := encStr_inj hx0
      subst hkl
      have hxf : ∃ x ∈ F, x.name = n ∧ c = .pointer (some ⟨x.g, 0, none⟩) := by
        have e1 := hat .nil
        have e2 := hat (.lit (.int .i64 (-1)))
        rw [atKey_ent_any] at e1 e2
        cases hf : fndK Fl.key n F with
        | none => rw [hf] at e1 e2; rw [← e2] at e1; cases e1
        | some x =>
          rw [hf] at e1
          obtain ⟨hm, hk⟩ := fndK_some hf
          have : ptrElem c = some (.lit (.int .i64 (x.g : Int)), y2) := by rw [hc, show (DataW.lit (.int .i64 (x.g : Int)) : DataW Unit) = y1 from e1]
          exact ⟨x, hm, hk, ptrElem_inv this⟩
      obtain ⟨x, hxm, rfl, rfl⟩ := hxf
      have hf := hfiles.out x hxm
      have hbw1 : Below w.heap.size w w1 := hbw.trans ⟨hg1.os, hg1.tape, hg1.output, hg1.size, fun k hk => hg1.block k (by have := hbw.size; omega) (fun e => by cases e; omega)⟩
      have c0 := (hf.blk.same (hbw1.block x.g hf.blk.lt)).cell 0
      simp at c0
      obtain ⟨ao, cap, hv⟩ := hf.slice
      rw [hv] at c0
      have hm1 := met_step hrise hxm hlk
      have hm2 := met_le (fun z => left z && !z.sameKey (.string x.name)) F
      have hm3 : ((met left F : Nat) : Int) + (x.data.length : Int) ≤ 10000000 := by omega
      have hm4 : ((met left F : Nat) : Int) + (x.data.length : Int) = (met (fun z => left z && !z.sameKey (.string x.name)) F : Nat) := by omega
      have HM := hid hm4
      have Hrg := hid hrg.left_eq
      clear hm1 hm2 hm4 hv hf hat hc hkey hx0 hlk hg1 hs1
      go_wp2
      go_roundw
      case rel => exact ⟨_, cnt1, hrg1, by rw [← HM.out], hbw1⟩
      case measure => rw [hrg1.left_eq, Hrg.out]; exact hlt1
end

end Go.Proofs.YtbccikefccdekaaGreatDoor

/-
  LAYER 2 (disk): List, by the library's own slices.Sorted and maps.Keys.
-/
namespace Go.Proofs.YtbccikefccdekaaGreatDoor
open Go.RowKit Go.Maps Go.Sort Go.Shelf
set_option linter.unusedVariables false
set_option maxRecDepth 100000

theorem sortsA (m : Nat) : AnyZ.SortsIn Tryz.prog Tryz.sortedA_ren Fence.wide m :=
  ⟨fun blk off cap ss W hH hblk hsz => callsIn_wide.2 (AnyM.slices_Sort_string Tryz.sortA blk off cap ss W hH hblk hsz),
   fun p cap W => callsIn_wide.2 (AnyM.slices_Sort_string_none Tryz.sortA p cap W)⟩

theorem sorted_eq {l m : List (List UInt8)} (hp : l.Perm m) (hs : m.Pairwise (· < ·)) : l.mergeSort (fun x y => decide (x ≤ y)) = m := by
  rw [show l.mergeSort (fun x y => decide (x ≤ y)) = m.mergeSort (fun x y => decide (x ≤ y)) from mergeSort_of_perm hp]
  apply List.mergeSort_of_pairwise
  refine hs.imp fun {x y} h => ?_
  simp only [decide_eq_true_eq]
  exact List.not_lt.1 (blt_asymm h)

/-- The names as they lie in memory. -/
def NamesAt (w : World) (B : Nat) (v : Value) (l : List (List UInt8)) : Prop := w.ownsRow B 9 1 v l.length (l.map encStr)

set_option maxHeartbeats 1000000 in
theorem list_any {w : World} {S : Nat → Prop} {a mb : Nat} {F : List Fl} {s : Dk} (h : DiskRep w S a mb F s) : Calls Tryz.prog 22 #[.pointer (some ⟨a, 0, none⟩)] w fun e w' =>
    ∃ v, e = .returned v ∧ NamesAt w' w.heap.size v (s.L.map AF.name) ∧ Below w.heap.size w w' := by
  obtain ⟨left, hw, _⟩ := h.head
  have c1 := hw.cell 1
  simp at c1
  have hown := h.map
  have hmany : F.length ≤ 40 := by rw [h.len]; exact h.ok.many
  have hnames : s.L.map AF.name = F.map Fl.name := by rw [h.abs, List.map_map]; rfl
  have hsorted : (F.map Fl.name).Pairwise (· < ·) := List.pairwise_map.2 h.rise
  rw [hnames]
  have hsz : Maps.size (.map (entOf F)) = F.length := size_ent F
  have hks : strKeys (.map (entOf F)) = F.map Fl.name := strKeys_ent F
  clear h hw
  refine (callsIn_wide (n := 6)).1 ?_
  have hbl := hown.lt
  have hseq : SeqGives Fence.wide 2 Tryz.prog 73 #[.pointer (some ⟨w.heap.size, 0, none⟩)] encStr (fun ss => ss.Perm (strKeys (.map (entOf F)))) (Maps.size (.map (entOf F))) (w.alloc (.cells #[.map (some mb)] 69)) :=
    AnyZ.keys_gives (ρ := Tryz.keysA_ren) { Tryz.keysA with } Fence.wide _ trivial rfl (by omega) w.heap.size mb F.length _ _ (by simp) (by simp) (by
      obtain ⟨es, clock, hb, Ft, hs, hD⟩ := hown
      exact ⟨es, clock, (Below.heap_alloc _ _ mb hbl).trans hb, Ft, hs, hD⟩)
  have cK : ∀ mb W, CallsIn Fence.wide 5 Tryz.prog 44 #[.map mb] W fun e w' => e = .returned (.func (.func 73) #[] #[.pointer (some ⟨W.heap.size, 0, none⟩)]) ∧ w' = W.alloc (.cells #[.map mb] 69) := fun mb W => AnyZ.keys_in Tryz.keysA Fence.wide 5 trivial rfl mb W
  have cS := AnyZ.sorted_in Tryz.sortedA Fence.wide 5 trivial trivial trivial trivial rfl (by omega) (sortsA _) (enters_of Tryz.func72 (by kernel_rfl) rfl) 73 #[.pointer (some ⟨w.heap.size, 0, none⟩)] trivial (enters_of Tryz.func73 (by kernel_rfl) rfl) _ _ (by rw [hsz]; unfold maxLen; omega) (by rw [hsz]; omega) _ hseq
  change CallsIn _ _ Tryz.prog 43 _ _ _ at cS
  have hfK : Fence.wide.fn 44 := trivial
  have hfS : Fence.wide.fn 43 := trivial
  have hks' := hid hks
  have hsz' := hid hsz
  have hs' := hid hsorted
  clear hks hsz hsorted hseq hnames
  refine callsIn_of_wp Tryz.func22 rfl trivial ?_ rfl
  simp only [Tryz.ntmps22, List.size_toArray, List.length_cons, List.length_nil, Nat.reduceAdd, Nat.reduceSub, Array.replicate_succ, Array.replicate_zero, List.push_toArray, List.append_toArray, List.nil_append, List.cons_append]
  gi_wp2_with (first
    | (gi_at_call 44; refine (cK _ _).mono ?_; rintro e w' ⟨rfl, rfl⟩)
    | (gi_at_call 43; refine cS.mono ?_; rintro e w' ⟨v, ss, rfl, hS, hrow, hnil, hb⟩))
  go_ret
  refine ⟨v, rfl, ?_, ((Below.refl _ w).alloc (Nat.le_refl _) _).trans (hb.mono (by simp))⟩
  rw [hks'.out] at hS
  rw [sorted_eq hS hs'.out, hS.length_eq] at hrow
  unfold NamesAt
  exact ownsRow_base_a hrow (by simp)
end Go.Proofs.YtbccikefccdekaaGreatDoor

/-
  strings.Clone: the same text; only new memory.
-/
namespace Go.Proofs.YtbccikefccdekaaGreatDoor
open Go.RowKit
set_option linter.unusedVariables false
set_option maxRecDepth 100000

theorem setRow_size (w : World) (g : Nat) (cs : Array Value) : (w.setRow g cs).heap.size = w.heap.size := by simp [World.setRow]
theorem setRow_other (w : World) (g : Nat) (cs : Array Value) (b : Nat) (hb : b ≠ g) : (w.setRow g cs).heap[b]? = w.heap[b]? := by
  simp only [World.setRow, Array.getElem?_modify]
  rw [if_neg (fun e => hb e.symm)]
theorem setRow_same {w : World} {g : Nat} {cur : Array Value} {t : TypeId} {fz : Nat × Nat} (hg : w.heap[g]? = some (.cells cur t fz)) (cs : Array Value) : (w.setRow g cs).heap[g]? = some (.cells cs t fz) := by
  simp [World.setRow, Array.getElem?_modify, hg]

set_option maxHeartbeats 1000000 in
theorem litClone_any (s : ByteArray) (w : World) (hs : s.size ≤ 140737488355328) :
    Calls Tryz.prog 112 #[.string s] w fun e w' => e = .returned (.string s) ∧ Below w.heap.size w w' := by
  by_cases h0 : s.size = 0
  · have hs0 : s = ⟨#[]⟩ := by
      apply str_ext
      exact List.length_eq_zero_iff.1 (by rw [str_len]; exact h0)
    subst hs0
    go_enter Tryz.func112, Tryz.ntmps112
    go_wp2
    go_ret
    exact ⟨rfl, Below.refl _ _⟩
  · obtain ⟨w1, hmake, hby, hb1, hz1⟩ := make_bytes w w.heap.size s.size (Nat.le_refl _) hs
    have hrow := hby
    rcases hrow.2 with ⟨hv, _⟩ | ⟨g, cap, cur, hv, hBg, hg, hnc, hcm, hcs, htake⟩
    · simp at hv
    · have hg0 : g = w.heap.size := by
        simp only [Value.slice.injEq, Option.some.injEq, Addr.mk.injEq] at hv
        exact hv.1.1.symm
      have hcap : cap = s.size := by
        simp only [Value.slice.injEq] at hv
        have := hv.2.2
        simpa using this.symm
      subst hg0
      subst hcap
      have hcopy := Lib.run_copy_row_string (P := Tryz.prog) w1 33 9 3 5 w.heap.size 0 s.size s.size s cur 5 Tryz.underlying33 (by obtain ⟨i0, hi, hz, hsz, _⟩ := infoByte_parts; rw [hi]; simp [hsz]) hg (Nat.le_refl _) (by rw [hcs]; simp)
      have hnew : (cur.toList.take 0 ++ Lib.byteCells s.data.toList ++ cur.toList.drop (0 + s.size)).toArray = (Lib.byteCells s.data.toList).toArray := by
        have : cur.toList.length = s.size := by simpa using hcs
        rw [List.drop_of_length_le (by omega)]
        simp
      rw [hnew] at hcopy
      have hg2 := setRow_same hg (Lib.byteCells s.data.toList).toArray
      have hz2 := setRow_size w1 w.heap.size (Lib.byteCells s.data.toList).toArray
      have hb2 : Below w.heap.size w (w1.setRow w.heap.size (Lib.byteCells s.data.toList).toArray) := hb1.trans ⟨rfl, rfl, rfl, by rw [hz2]; exact Nat.le_refl _, fun k hk => setRow_other _ _ _ _ (by omega)⟩
      generalize w1.setRow w.heap.size (Lib.byteCells s.data.toList).toArray = w2 at *
      have hlen : (Lib.byteCells s.data.toList).length = s.size := by rw [Lib.byteCells_length, str_len]
      have hUS : (Builtin.unsafeString_ #[87, 3] 9 #[.pointer (some ⟨w.heap.size, 0, none⟩), .int .i64 s.size]).run Tryz.prog w2 = .ok (.string s) (w2.freeze ⟨w.heap.size, 0, none⟩ s.size) := by
        have := Lib.run_unsafeString_row (P := Tryz.prog) w2 87 3 9 5 Tryz.underlying87 cellsByte w.heap.size s.size (by simp [World.shape?, hg2, hlen]) s.data.toList (by intro e; apply h0; rw [← str_len, e]; rfl) (by rw [str_len]; exact Nat.le_refl _) (by rw [str_len]; omega) ?_
        · rw [str_len] at this; exact this
        · intro j x hx
          rw [show (⟨w.heap.size, 0, none⟩ : Addr).add j = ⟨w.heap.size, j, none⟩ by unfold Addr.add; split <;> simp_all, Lib.cell_of_heap hg2]
          simp [Lib.byteCells, hx]
      have hb3 := Lib.below_freeze hb2 (p := ⟨w.heap.size, 0, none⟩) (Nat.le_refl _) s.size
      have HB := hid hb3
      have hpos : 0 < s.size := by omega
      have hlt63 : s.size < 9223372036854775807 := by omega
      clear hb3 hb2 hb1 hz1 hz2 hg2 hg hby hrow hv hnew htake hcs hlen hcm hnc hBg h0
      go_enter Tryz.func112, Tryz.ntmps112
      go_wp2
      go_ret
      exact ⟨rfl, HB.out⟩
theorem clone_any (s : ByteArray) (w : World) (hs : s.size ≤ 140737488355328) :
    Calls Tryz.prog 90 #[.string s] w fun e w' => e = .returned (.string s) ∧ Below w.heap.size w w' := by
  go_enter Tryz.func90, Tryz.ntmps90
  go_wp2_with (go_at_call 112; (with_reducible refine (litClone_any s _ hs).mono ?_); rintro e w1 ⟨rfl, hb1⟩)
  go_ret
  exact ⟨rfl, hb1⟩
end Go.Proofs.YtbccikefccdekaaGreatDoor

/-
  LAYER 2 (disk), the program's calls that write: create, Append, Sync, Truncate, Rename, Delete, Fuse.
-/
namespace Go.Proofs.YtbccikefccdekaaGreatDoor
open Go.RowKit Go.Maps
set_option linter.unusedVariables false
set_option maxRecDepth 100000

def OpPost (w : World) (S : Nat → Prop) (a : Nat) (r : Dk × Int) (e : Ending) (w' : World) : Prop := e = .returned (.int .i64 r.2) ∧ DiskIs w' (grow S w w') a r.1 ∧ Chg S w w'

section
variable {w w' : World} {S : Nat → Prop} {a mb : Nat} {F : List Fl} {s : Dk}

theorem DiskRep.growBelow (h : DiskRep w S a mb F s) (hb : Below w.heap.size w w') : DiskRep w' (grow S w w') a mb F s := (h.below hb).widen grow_mono (grow_lt h.lt hb.size)
theorem OpPost.none (h : DiskRep w S a mb F s) {k : Int} {w' : World} (hb : Below w.heap.size w w') {r : Dk × Int} (hr : r = (s, k)) {e : Ending} (he : e = .returned (.int .i64 k)) : OpPost w S a r e w' := by
  subst hr
  exact ⟨he, ⟨mb, F, h.growBelow hb⟩, Chg.of_below hb⟩
def freshFl (n : List UInt8) (g : Nat) : Fl := ⟨n, [], 0, g, .slice none 0 0⟩
def CreatePost (w : World) (S : Nat → Prop) (a mb : Nat) (F : List Fl) (s : Dk) (n : List UInt8) (e : Ending) (w' : World) : Prop :=
  e = .returned (.pointer (some ⟨w.heap.size, 0, none⟩)) ∧ DiskRep w' (grow S w w') a mb (insK Fl.key (freshFl n w.heap.size) F) { s with L := insK AF.key (newF n []) s.L } ∧ Chg S w w'

set_option maxHeartbeats 1000000 in
theorem create_any (h : DiskRep w S a mb F s) (n : ByteArray) (hn : n.size ≤ 140737488355328) (hname : isName n.data.toList = true) (hno : fndK Fl.key n.data.toList F = none) (hmany : F.length < 40) :
    Calls Tryz.prog 87 #[.pointer (some ⟨a, 0, none⟩), .string n] w (CreatePost w S a mb F s n.data.toList) := by
  obtain ⟨left, hw, _⟩ := h.head
  have c1 := hw.cell 1
  simp at c1
  have hW := own.new w #[.slice none 0 0, .int .i64 0] 99
  have hbW : Below w.heap.size w (w.alloc (.cells #[.slice none 0 0, .int .i64 0] 99)) := Below.alloc (Below.refl _ _) (Nat.le_refl _) _
  have hzW : (w.alloc (.cells #[.slice none 0 0, .int .i64 0] 99)).heap.size = w.heap.size + 1 := by simp
  have c1W := (hw.same (hbW.block a hw.lt)).cell 1
  simp at c1W
  have hupd : ∀ w1 : World, Below (w.heap.size + 1) (w.alloc (.cells #[.slice none 0 0, .int .i64 0] 99)) w1 → ∃ w2, (Instr.mapUpdate 69 (.map (some mb)) (.string n) (.pointer (some ⟨w.heap.size, 0, none⟩))).run Tryz.prog w1 = .ok () w2 ∧
      CreatePost w S a mb F s n.data.toList (.returned (.pointer (some ⟨w.heap.size, 0, none⟩))) w2 := by
    intro w1 hb1
    have hb1' : Below w.heap.size w w1 := hbW.trans (hb1.mono (by omega))
    have hz1 : w.heap.size < w1.heap.size := by have := hb1.size; omega
    have h1 : DiskRep w1 (grow S w w1) a mb F s := h.growBelow hb1'
    obtain ⟨w2, hrun, hown2, hturn⟩ := h1.map.store keyedStr Tryz.underlying69 (by unfold maxLen; omega) (keyStr n (by unfold maxLen; omega)) (ptrElem_ptr w.heap.size)
    have hc := mapTurned_chg hturn
    have hz2 := mapTurned_size hturn
    have hfile : FileOk w1 (freshFl n.data.toList w.heap.size) := ⟨hW.same (hb1.block _ (by omega)), ⟨rfl, .inl ⟨rfl, rfl⟩⟩, by simp [freshFl, Value.ownBlock]⟩
    have hfoot : ∀ b ∈ (freshFl n.data.toList w.heap.size).foot, b = w.heap.size := by intro b hb; simpa [Fl.foot, freshFl, Value.ownBlock] using hb
    have hnoA : fndK AF.key n.data.toList s.L = none := by rw [h.fnd, hno]; rfl
    have h2 : DiskRep w2 (grow S w w1) a mb (insK Fl.key (freshFl n.data.toList w.heap.size) F) { s with L := insK AF.key (freshFl n.data.toList w.heap.size).abs s.L } := by
      refine h1.put (x := freshFl n.data.toList w.heap.size) hno hfile (fun b hb hin => ?_) (fun b hb => ?_) (by unfold maxLen; omega) hown2 hc ?_
      · rw [hfoot b hb] at hin
        have := h.lt _ (h.inS _ hin)
        omega
      · rw [hfoot b hb]; exact .inr ⟨Nat.le_refl _, hz1⟩
      · refine Ok_ins h.ok (f := newF n.data.toList []) hname (Nat.zero_le _) (fndK_none hnoA) (by rw [← h.len]; exact hmany) ?_
        have := h.ok.room
        show (sz s.L : Int) + ((0 : Nat) : Int) ≤ s.most
        omega
    refine ⟨w2, hrun, rfl, ?_, ?_⟩
    · have : grow S w w1 = grow S w w2 := by funext b; unfold grow; rw [hz2]
      rw [← this]; exact h2
    · exact (Chg.of_below hb1').trans (hc.mono (T := fun b => b = mb) (fun x e => e)) (fun x e => .inl (by rw [e]; exact h.inM))
  have HU := hid hupd
  have haz : a < w.heap.size + 1 := by have := hw.lt; omega
  have hnil := fun wx => run_eql_map_nil wx 69 9 73 (some mb) Tryz.underlying69
  have hz : w.heap.size + 1 ≤ (w.alloc (.cells #[.slice none 0 0, .int .i64 0] 99)).heap.size := by rw [hzW]; exact Nat.le_refl _
  clear hupd h hno hw hbW hW hzW
  go_enter Tryz.func87, Tryz.ntmps87
  go_wp2
  go_region_with (go_at_call 90; (with_reducible refine (clone_any n _ hn).mono ?_); rintro e w1 ⟨rfl, hb1⟩; have hb1 := (Below.drew (Below.refl _ _)).trans (hb1.mono (B' := w.heap.size + 1) hz); have c1w := (hb1.cell (p := ⟨a, 1, none⟩) haz).trans c1W; obtain ⟨w2, hrun, hpost⟩ := HU.out w1 hb1; have HP := hid hpost; clear hpost)
  all_goals
    go_wp2
    go_ret
    exact HP.out

theorem spend_hid (w : World) (h : DiskRep w S a mb F s) (k : Int) (hk : spendV s.fuse = k) (s' : Dk) (hs : spendTo s = s') : Calls Tryz.prog 86 #[.pointer (some ⟨a, 0, none⟩)] w fun e w' =>
    e = .returned (.int .i64 k) ∧ DiskRep w' S a mb F s' ∧ Chg (fun b => b = a) w w' ∧ w'.heap.size = w.heap.size := by
  subst hk; subst hs
  exact spend_any h

theorem look_any (h : DiskRep w S a mb F s) {n : ByteArray} (hn : n.size ≤ maxLen) : ∃ v, (Instr.lookup 69 (.map (some mb)) (.string n) true).run Tryz.prog w = .ok (.tuple #[v, .bool (fndK Fl.key n.data.toList F).isSome]) w := by
  cases hx : fndK Fl.key n.data.toList F with
  | none => exact ⟨_, look_none h hn hx⟩
  | some x => exact ⟨_, look_some h hn hx⟩

/-- Append, past the checks of name and number: too long. -/
def LookIs (w : World) (mb : Nat) (n : ByteArray) (v : Value) (b : Bool) : Prop := (Instr.lookup 69 (.map (some mb)) (.string n) true).run Tryz.prog w = .ok (.tuple #[v, .bool b]) w
def LenIs (w : World) (mb : Nat) (b : Bool) : Prop := ∃ k : Int, (Builtin.len_ #[69] 3 #[.map (some mb)]).run Tryz.prog w = .ok (.int .i64 k) w ∧ (b = true ∨ k < 40)

set_option maxHeartbeats 2000000 in
theorem append_full (h : DiskRep w S a mb F s) (n d : ByteArray) (hn : n.size ≤ maxLen) (hd : d.size ≤ 140737488355328) (hdd : s.dead = false) (hnm : isName n.data.toList = true) (v : Value) (b : Bool)
    (hl0 : LookIs w mb n v b) (hlen0 : LenIs w mb b) (hfull : s.most - (sz s.L : Int) < d.size) :
    Calls Tryz.prog 58 #[.pointer (some ⟨a, 0, none⟩), .string n, .string d] w (OpPost w S a (s, 6)) := by
  obtain ⟨left, hw, _⟩ := h.head
  have c0 := hw.cell 0
  have c1 := hw.cell 1
  have c4 := hw.cell 4
  simp [hdd] at c0 c1 c4
  have hfin : ∀ w', Below w.heap.size w w' → OpPost w S a (s, 6) (.returned (.int .i64 6)) w' := fun w' hb => OpPost.none h hb rfl rfl
  have HF := hid hfin
  have HN := hid (fun w => by have := name_any n w hn; rwa [hnm] at this)
  have HZ := hid (fun w1 (hb : Below w.heap.size w w1) => size_any (h.below hb))
  have hm1 : s.most ≤ 10000000 := h.ok.most
  have hm2 : (sz s.L : Int) ≤ s.most := h.ok.room
  have hm3 : 0 ≤ (sz s.L : Int) := by omega
  have ha : a < w.heap.size := hw.lt
  have hq2 : decide ((d.size : Int) > s.most - (sz s.L : Int)) = true := by simpa using hfull
  unfold maxLen at hn
  unfold LookIs at hl0
  obtain ⟨k, hlen, hk⟩ := hlen0
  clear hfin hnm hdd h hw
  generalize (sz s.L : Int) = N at *
  have hW : IntKind.i64.wrap (s.most - N) = s.most - N := IntWalk.i64_in _ (by omega)
  generalize s.most = M at *
  have hkk : b = true ∨ (b = false ∧ decide (k ≥ 40) = false) := by
    rcases hk with hk | hk
    · exact .inl hk
    · cases b with
      | true => exact .inl rfl
      | false => exact .inr ⟨rfl, by simp; omega⟩
  clear hk
  rcases hkk with rfl | ⟨rfl, hkk⟩
  all_goals
    go_enter Tryz.func58, Tryz.ntmps58
    go_wp2_with (go_at_call 84; (with_reducible refine (HN.out _).mono ?_); rintro e w1 ⟨rfl, rfl⟩)
    go_region_held3 (fun wx => wx.cell? ⟨a, 0, none⟩ = some (.int .i64 M) ∧ Below w.heap.size w wx) (first | exact ⟨c0, Below.drew (Below.refl _ _)⟩ | exact ⟨hc3, hb3⟩ | go_keep)
      (first | (go_at_call 85; (with_reducible refine (HZ.out _ (And.right (by assumption))).mono ?_); rintro e w2 ⟨rfl, hb2⟩; have hb3 : Below w.heap.size w w2 := Below.trans (And.right (by assumption)) (hb2.mono (Below.size (And.right (by assumption)))); have hc3 := (hb3.cell (p := ⟨a, 0, none⟩) ha).trans c0))
    clear hW
    go_wp2
    go_ret
    exact HF.out _ (And.right (by assumption))


/-- 'f.data = append(f.data, data...)' at a file of the disk. -/
theorem add_tail (h : DiskRep w S a mb F s) {n : List UInt8} {x : Fl} (hx : fndK Fl.key n F = some x) (d : ByteArray) (hroom : (sz s.L : Int) + d.size ≤ s.most) (ty : TypeId) :
    ∃ ao nn cap w4 v', v' = .slice ao nn cap ∧ (Builtin.append_ #[33, 9] ty #[x.v, .string d]).run Tryz.prog w = .ok v' w4 ∧ w4.cell? ⟨x.g, 0, none⟩ = some x.v ∧ w4.frozen? ⟨x.g, 0, none⟩ = false ∧
      (∃ F', DiskRep (w4.setCell ⟨x.g, 0, none⟩ v') (grow S w (w4.setCell ⟨x.g, 0, none⟩ v')) a mb F' { s with L := updK AF.key n (addF d.data.toList) s.L }) ∧ Chg S w (w4.setCell ⟨x.g, 0, none⟩ v') := by
  obtain ⟨hxm, hxn⟩ := fndK_some hx
  have hf := h.files x hxm
  have hlen : x.data.length ≤ sz s.L := by
    have : x.abs ∈ s.L := by rw [h.abs]; exact List.mem_map.2 ⟨x, hxm, rfl⟩
    exact sz_mem this
  have hmost := h.ok.most
  obtain ⟨v', w4, hr, hrow, hg, hblk⟩ := run_app_str w ty x.v x.data hf.row d (by omega)
  have hxg : x.g < w.heap.size := hf.blk.lt
  have hb4 : own w4 x.g #[x.v, .int .i64 x.synced] 99 := hf.blk.same (hg.block x.g hxg (fun e => hf.apart e.symm))
  have hc4 : Chg (fun b => b ∈ x.foot) w w4 := (Chg.of_grown hg).mono (fun b e => by simp [Fl.foot, e])
  have hv'g : v'.ownBlock ≠ some x.g := fun e => by
    rcases hblk x.g e with h1 | h1
    · exact hf.apart h1
    · omega
  have hb5 := hb4.set 0 v'
  have hc5 : Chg (fun b => b ∈ x.foot) w (w4.setCell ⟨x.g, 0, none⟩ v') := hc4.trans (Chg.setCell w4 ⟨x.g, 0, none⟩ v') (fun b e => .inl (by simp [Fl.foot, show b = x.g from e]))
  have hrow5 : Bytes (w4.setCell ⟨x.g, 0, none⟩ v') 0 v' (x.data ++ d.data.toList) := ownsRow_same hrow (fun b hb => Below.heap_setCell _ _ _ _ (fun e => hv'g (by rw [hb, e])))
  have hS : ∀ b ∈ x.foot, S b := fun b hb => h.inS b (by simp only [List.mem_cons, List.mem_flatMap]; exact .inr (.inr ⟨x, hxm, hb⟩))
  obtain ⟨ao, cap, hsl⟩ := bytes_slice hrow
  refine ⟨ao, _, cap, w4, v', hsl, hr, by rw [hb4.cell 0]; rfl, hb4.frozen 0, ?_, hc5.mono hS⟩
  have := h.set (x' := { x with data := x.data ++ d.data.toList, v := v' }) hx rfl rfl (H := addF d.data.toList) rfl (fun _ => rfl) ⟨by simpa using hb5, hrow5, hv'g⟩ hc5 ?_ ?_
  · obtain ⟨F', h1, _⟩ := this
    exact ⟨F', h1⟩
  · intro b hb
    simp only [Fl.foot, List.mem_cons, Option.mem_toList] at hb ⊢
    rcases hb with rfl | hb
    · exact .inl (.inl rfl)
    · rcases hblk b hb with h1 | h1
      · exact .inl (.inr h1)
      · exact .inr h1
  · exact Ok_upd h.ok d.size (fun _ => rfl) (fun f hf => by simp [addF]; omega) (fun f => by simp [addF]) hroom

theorem upd_ins {n d : List UInt8} {L : List AF} (hno : fndK AF.key n L = none) : updK AF.key n (addF d) (insK AF.key (newF n []) L) = insK AF.key (newF n d) L := by
  have hne := fndK_none hno
  clear hno
  induction L with
  | nil => simp [insK, updK, newF, addF]
  | cons x r ih =>
    have hx := hne x (by simp)
    unfold insK
    have hr : updK AF.key n (addF d) (x :: r) = x :: r := by
      unfold updK
      conv => rhs; rw [← List.map_id (x :: r)]
      apply List.map_congr_left
      intro y hy
      rw [if_neg (hne y hy)]; rfl
    by_cases h : AF.key (newF n []) < AF.key x
    · rw [if_pos h, if_pos (show AF.key (newF n d) < AF.key x from h)]
      show (if AF.key (newF n []) = n then addF d (newF n []) else newF n []) :: updK AF.key n (addF d) (x :: r) = _
      rw [hr, if_pos (show AF.key (newF n []) = n from rfl)]; rfl
    · rw [if_neg h, if_neg (show ¬ AF.key (newF n d) < AF.key x from h)]
      show (if AF.key x = n then addF d x else x) :: updK AF.key n (addF d) (insK AF.key (newF n []) r) = _
      rw [if_neg hx, ih (fun y hy => hne y (by simp [hy]))]
end
end Go.Proofs.YtbccikefccdekaaGreatDoor

