import Derived.Test.YtbccikefccdekaaGreatDoorG0J
/-
  GENERAL: rows of things, each of so many cells (structs of one-cell fields, ints, texts): rows that the call has made (ROwn) and rows that lie anywhere (RAt); cut, put behind one another, one cell turned.
-/
namespace Go.Proofs.YtbccikefccdekaaGreatDoor.Gr
open Go.RowKit
set_option linter.unusedVariables false
set_option maxRecDepth 100000

/-- How a thing lies in a row: the slice's type, its element's, how many cells, how many bytes, the cells, the zero. -/
structure RowTy (α : Type) where
  st : TypeId
  el : TypeId
  n : Nat
  bytes : Nat
  cs : α → List Value
  zero : Value
structure RowTy.Ok {α : Type} (R : RowTy α) : Prop where
  len : ∀ x, (R.cs x).length = R.n
  one : ∀ x, ∀ u ∈ R.cs x, u.oneCell' = true
  pos : 0 < R.n
  under : Tryz.prog.underlying R.st = some (.slice R.el)
  info : (Tryz.prog.info? R.el).map (fun i => (i.zero, i.size, i.bytes)) = some (some R.zero, R.n, R.bytes)
  elem : Tryz.prog.elem R.st = R.el
  zs : R.zero.cells.size = R.n
  small : R.bytes ≤ 1000
section
variable {α : Type} {R : RowTy α}
theorem RowTy.Ok.parts (o : R.Ok) : ∃ i, Tryz.prog.info? R.el = some i ∧ i.zero = some R.zero ∧ i.size = R.n ∧ i.bytes = R.bytes := by
  obtain ⟨i, hi, hz⟩ := Option.map_eq_some_iff.1 o.info
  simp only [Prod.mk.injEq] at hz
  exact ⟨i, hi, hz.1, hz.2.1, hz.2.2⟩
def RowTy.flat (R : RowTy α) (L : List α) : List Value := L.flatMap R.cs
theorem flat_nil : R.flat [] = [] := rfl
theorem flat_cons (x : α) (r : List α) : R.flat (x :: r) = R.cs x ++ R.flat r := rfl
theorem flat_append (A C : List α) : R.flat (A ++ C) = R.flat A ++ R.flat C := by simp [RowTy.flat]
theorem flat_length (o : R.Ok) (L : List α) : (R.flat L).length = L.length * R.n := by
  induction L with
  | nil => simp [RowTy.flat]
  | cons x r ih => rw [flat_cons, List.length_append, ih, o.len, List.length_cons, Nat.add_mul, Nat.one_mul, Nat.add_comm]
theorem flat_one (o : R.Ok) (L : List α) : ∀ u ∈ R.flat L, u.oneCell' = true := by
  intro u hu
  obtain ⟨x, _, hx⟩ := List.mem_flatMap.1 hu
  exact o.one x u hx
theorem flat_get (o : R.Ok) : ∀ {L : List α} {i j : Nat} {x : α} {u : Value}, L[i]? = some x → (R.cs x)[j]? = some u → (R.flat L)[i * R.n + j]? = some u
  | [], i, j, x, u, hi, hj => by simp at hi
  | y :: r, 0, j, x, u, hi, hj => by
    simp at hi; subst hi
    have hlt : j < (R.cs y).length := (List.getElem?_eq_some_iff.1 hj).1
    rw [flat_cons, Nat.zero_mul, Nat.zero_add, List.getElem?_append_left hlt]
    exact hj
  | y :: r, i + 1, j, x, u, hi, hj => by
    rw [flat_cons, List.getElem?_append_right (by rw [o.len, Nat.add_mul]; omega), o.len]
    have : (i + 1) * R.n + j - R.n = i * R.n + j := by rw [Nat.add_mul]; omega
    rw [this]
    exact flat_get o (by simpa using hi) hj
theorem flat_take (o : R.Ok) (L : List α) : ∀ k, R.flat (L.take k) = (R.flat L).take (k * R.n)
  | 0 => by simp [RowTy.flat]
  | k + 1 => by
    cases L with
    | nil => simp [RowTy.flat]
    | cons e r =>
      rw [List.take_succ_cons, flat_cons, flat_cons, flat_take o r k, show (k + 1) * R.n = (R.cs e).length + k * R.n by rw [o.len, Nat.add_mul]; omega, List.take_length_add_append]
theorem flat_drop (o : R.Ok) (L : List α) : ∀ k, R.flat (L.drop k) = (R.flat L).drop (k * R.n)
  | 0 => by simp
  | k + 1 => by
    cases L with
    | nil => simp [RowTy.flat]
    | cons e r =>
      rw [List.drop_succ_cons, flat_cons, flat_drop o r k, show (k + 1) * R.n = (R.cs e).length + k * R.n by rw [o.len, Nat.add_mul]; omega, ← List.drop_drop, List.drop_left]
theorem flat_put (o : R.Ok) : ∀ {L : List α} {i j : Nat} {x x' : α} {u : Value}, L[i]? = some x → j < R.n → R.cs x' = (R.cs x).set j u → R.flat (L.set i x') = (R.flat L).set (i * R.n + j) u
  | [], i, j, x, x', u, hi, hj, hx => by simp at hi
  | y :: r, 0, j, x, x', u, hi, hj, hx => by
    simp at hi; subst hi
    rw [List.set_cons_zero, flat_cons, flat_cons, hx, Nat.zero_mul, Nat.zero_add, List.set_append, if_pos (by rw [o.len]; exact hj)]
  | y :: r, i + 1, j, x, x', u, hi, hj, hx => by
    rw [List.set_cons_succ, flat_cons, flat_cons, flat_put o (by simpa using hi) hj hx, List.set_append, if_neg (by rw [o.len, Nat.add_mul]; omega), o.len]
    congr 2
    rw [Nat.add_mul]; omega

/-- A row that lies somewhere, and is read. -/
def RAt (R : RowTy α) (w : World) (v : Value) (L : List α) : Prop :=
  ∃ a cap, v = .slice a L.length cap ∧ L.length ≤ cap ∧ (a = none → cap = 0) ∧ cap ≤ maxLen ∧ (L ≠ [] → ∃ sb so, a = some ⟨sb, so, none⟩ ∧ sb < w.heap.size ∧ ∀ j u, (R.flat L)[j]? = some u → w.cell? ⟨sb, so + j, none⟩ = some u)
theorem RAt.same {w w' : World} {v : Value} {L : List α} (h : RAt R w v L) (hs : ∀ b, v.ownBlock = some b → b < w.heap.size → w'.heap[b]? = w.heap[b]?) (hz : w.heap.size ≤ w'.heap.size) : RAt R w' v L := by
  obtain ⟨a, cap, rfl, h1, h2, h3, h4⟩ := h
  refine ⟨a, cap, rfl, h1, h2, h3, fun hne => ?_⟩
  obtain ⟨sb, so, rfl, hlt, hc⟩ := h4 hne
  refine ⟨sb, so, rfl, by omega, fun j u hj => ?_⟩
  have := hc j u hj
  unfold World.cell? at *
  rw [hs sb rfl hlt]
  exact this
theorem RAt.below {w w' : World} {v : Value} {L : List α} (h : RAt R w v L) (hb : Below w.heap.size w w') : RAt R w' v L := h.same (fun b _ hl => hb.block b hl) hb.size
theorem RAt.drewN {w : World} {v : Value} {L : List α} (h : RAt R w v L) (n : Nat) : RAt R (w.drewN n) v L := h
/-- Its shape, and the cells of each of its things (the address as the walk spells it, but for 'R.n'). -/
theorem RAt.at (o : R.Ok) {w : World} {v : Value} {L : List α} (h : RAt R w v L) : ∃ a cap, v = .slice a L.length cap ∧ L.length ≤ cap ∧ (a = none → cap = 0) ∧ ∀ (k : Nat) x, L[k]? = some x → ∃ sb so, a = some ⟨sb, so, none⟩ ∧ sb < w.heap.size ∧ ∀ j u, (R.cs x)[j]? = some u → w.cell? ⟨sb, so + k * R.n + j, none⟩ = some u := by
  obtain ⟨a, cap, rfl, h1, h2, h3, h4⟩ := h
  refine ⟨a, cap, rfl, h1, h2, fun k x hk => ?_⟩
  obtain ⟨sb, so, rfl, hlt, hc⟩ := h4 (by intro e; simp [e] at hk)
  exact ⟨sb, so, rfl, hlt, fun j u hj => by rw [Nat.add_assoc]; exact hc _ _ (flat_get o hk hj)⟩
theorem rAt_nil (w : World) : RAt R w (.slice none 0 0) [] := ⟨none, 0, rfl, Nat.le_refl _, (fun _ => rfl), Nat.zero_le _, fun h => absurd rfl h⟩
theorem rAt_own (o : R.Ok) {w : World} {b : Nat} {L : List α} {T : TypeId} {cs : Array Value} (h : own w b cs T) (hc : cs.toList = R.flat L) (n : Nat) (hn : n = L.length) (hm : n ≤ maxLen) : RAt R w (.slice (some ⟨b, 0, none⟩) n n) L := by
  subst hn
  refine ⟨some ⟨b, 0, none⟩, L.length, rfl, Nat.le_refl _, (fun e => by cases e), hm, fun _ => ⟨b, 0, rfl, h.lt, fun j u hj => ?_⟩⟩
  rw [Nat.zero_add, h.cell j, ← hj, ← hc]
  simp
theorem rAt_box (o : R.Ok) {w : World} {b : Nat} {x : α} {T : TypeId} {cs : Array Value} (h : own w b cs T) (hc : cs.toList = R.cs x) : RAt R w (.slice (some ⟨b, 0, none⟩) 1 1) [x] :=
  rAt_own o h (by rw [hc]; simp [RowTy.flat]) 1 rfl (by unfold maxLen; omega)
theorem RAt.take (o : R.Ok) {w : World} {ao : Option Addr} {n cap : Nat} {M : List α} (h : RAt R w (.slice ao n cap) M) {k : Nat} (hk : k ≤ M.length) : RAt R w (.slice ao k cap) (M.take k) := by
  obtain ⟨a, c, e, h1, h2, h3, h4⟩ := h
  cases e
  have hl : (M.take k).length = k := by rw [List.length_take]; omega
  refine ⟨ao, cap, by rw [hl], by rw [hl]; omega, h2, h3, fun hne => ?_⟩
  obtain ⟨sb, so, rfl, hlt, hc⟩ := h4 (fun e => hne (by rw [e]; simp))
  refine ⟨sb, so, rfl, hlt, fun j u hj => hc j u ?_⟩
  rw [flat_take o, List.getElem?_take] at hj
  split at hj
  · exact hj
  · cases hj
/-- What s[i:] is. -/
def RowTy.from (R : RowTy α) (ao : Option Addr) (L cap i : Nat) : Value := .slice (if cap = i then ao else ao.map (·.add (i * R.n))) (L - i) (cap - i)
theorem RAt.drop (o : R.Ok) {w : World} {ao : Option Addr} {n cap : Nat} {M : List α} (h : RAt R w (.slice ao n cap) M) {k : Nat} (hk : k ≤ M.length) : RAt R w (R.from ao n cap k) (M.drop k) ∧ ∀ b, (R.from ao n cap k).ownBlock = some b → (Value.slice ao n cap).ownBlock = some b := by
  obtain ⟨a, c, e, h1, h2, h3, h4⟩ := h
  cases e
  have hl : (M.drop k).length = M.length - k := List.length_drop
  unfold RowTy.from
  constructor
  · refine ⟨_, cap - k, by rw [hl], by rw [hl]; omega, fun e => ?_, by omega, fun hne => ?_⟩
    · by_cases hc : cap = k
      · omega
      · rw [if_neg hc] at e
        have := h2 (by simpa using e)
        omega
    · have hlt : k < M.length := by
        rcases Nat.lt_or_ge k M.length with h | h
        · exact h
        · exact absurd (List.drop_eq_nil_of_le h) hne
      obtain ⟨sb, so, rfl, hsb, hc⟩ := h4 (fun e => hne (by rw [e]; simp))
      rw [if_neg (by omega)]
      refine ⟨sb, so + k * R.n, ?_, hsb, fun j u hj => ?_⟩
      · rw [Option.map_some, Go.WideShapes.add_plain]
      · rw [flat_drop o, List.getElem?_drop] at hj
        rw [Nat.add_assoc]
        exact hc _ u hj
  · intro b hb
    split at hb
    · cases ao <;> exact hb
    · cases ao with
      | none => simp [Value.ownBlock] at hb
      | some ad =>
        simp only [Option.map_some, Value.ownBlock] at hb ⊢
        rw [← hb]
        congr 1
        unfold Addr.add
        split <;> rfl
theorem run_to (o : R.Ok) (wx : World) (ao : Option Addr) (L cap i : Nat) (hi : i ≤ cap) (hao : ao = none → cap = 0) : (Instr.slice R.st (.slice ao L cap) none (some (.int .i64 (i : Int))) none).run Tryz.prog wx = .ok (.slice ao i cap) wx := by
  obtain ⟨i0, hi0, _⟩ := o.parts
  cases ao with
  | none =>
    obtain rfl := hao rfl
    obtain rfl : i = 0 := by omega
    simp [go_sem, Instr.slice, run_underlying o.under, sizeOf, typeInfo, hi0, Result.andThen]
  | some q => simp [go_sem, Instr.slice, run_underlying o.under, hi, sizeOf, typeInfo, hi0, Result.andThen]
theorem run_from (o : R.Ok) (wx : World) (ao : Option Addr) (L cap i : Nat) (hi : i ≤ L) (hL : L ≤ cap) : (Instr.slice R.st (.slice ao L cap) (some (.int .i64 (i : Int))) none none).run Tryz.prog wx = .ok (R.from ao L cap i) wx := by
  obtain ⟨i0, hi0, _, hz1, _⟩ := o.parts
  have h := run_slice_l (P := Tryz.prog) wx R.st ao L cap (by rw [o.elem]; exact o.under) .i64 (i : Int) (by omega) (by omega)
  rw [h, o.elem]
  simp [RowTy.from, sizeOf, typeInfo, hi0, hz1, sliced, Result.andThen]

/-- A row that the call has made. -/
def ROwn (R : RowTy α) (w : World) (v : Value) (L : List α) : Prop := w.ownsRow 0 R.el R.n v L.length (R.flat L)
theorem ROwn.slice {w : World} {v : Value} {L : List α} (h : ROwn R w v L) : ∃ ao cap, v = .slice ao L.length cap ∧ L.length ≤ cap ∧ (ao = none → cap = 0) ∧ cap ≤ maxLen := by
  rcases h.2 with ⟨hv, hz⟩ | ⟨g, cap, cur, rfl, _, _, hnc, hcm, _⟩
  · exact ⟨none, 0, by rw [hv, hz], by omega, fun _ => rfl, Nat.zero_le _⟩
  · exact ⟨_, cap, rfl, hnc, fun e => (by cases e), hcm⟩
theorem ROwn.same {w w' : World} {v : Value} {L : List α} (h : ROwn R w v L) (hs : ∀ b, v.ownBlock = some b → w'.heap[b]? = w.heap[b]?) : ROwn R w' v L := ownsRow_same h hs
theorem ROwn.lt {w : World} {v : Value} {L : List α} (h : ROwn R w v L) : ∀ b, v.ownBlock = some b → b < w.heap.size := fun b hb => (World.ownsRow.lt h b hb).2
theorem ROwn.below {w w' : World} {v : Value} {L : List α} (h : ROwn R w v L) (hb : Below w.heap.size w w') : ROwn R w' v L := h.same (fun b e => hb.block b (h.lt b e))
theorem rOwn_nil (w : World) : ROwn R w (.slice none 0 0) [] := ⟨by simp [RowTy.flat], .inl ⟨rfl, rfl⟩⟩
theorem rOwn_empty {w : World} {g : Nat} (hg : own w g #[] R.el) : ROwn R w (.slice (some ⟨g, 0, none⟩) 0 0) [] :=
  ⟨by simp [RowTy.flat], .inr ⟨g, 0, #[], rfl, Nat.zero_le _, hg, Nat.le_refl _, Nat.zero_le _, by simp, by simp [RowTy.flat]⟩⟩
theorem rOwn_made (o : R.Ok) {w : World} {g : Nat} {L : List α} {cs : Array Value} (hg : own w g cs R.el) (hc : cs.toList = R.flat L) (n : Nat) (hn : n = L.length) (hm : n ≤ maxLen) : ROwn R w (.slice (some ⟨g, 0, none⟩) n n) L := by
  subst hn
  have hs : cs.size = L.length * R.n := by rw [← Array.length_toList, hc, flat_length o]
  exact ⟨flat_length o L, .inr ⟨g, L.length, cs, rfl, Nat.zero_le _, hg, Nat.le_refl _, hm, hs, by rw [hc, List.take_of_length_le (by rw [flat_length o]; exact Nat.le_refl _)]⟩⟩
theorem ROwn.rAt {w : World} {v : Value} {L : List α} (h : ROwn R w v L) : RAt R w v L := by
  have hlt := h.lt
  obtain ⟨ao, cap, rfl, h1, h2, h3⟩ := h.slice
  refine ⟨ao, cap, rfl, h1, h2, h3, fun hne => ?_⟩
  rcases h.2 with ⟨hv, hz⟩ | ⟨g, cap', cur, hv, _, hg, _⟩
  · exact absurd (List.length_eq_zero_iff.1 hz) hne
  · simp only [Value.slice.injEq] at hv
    obtain ⟨rfl, _, _⟩ := hv
    refine ⟨g, 0, rfl, hlt g rfl, fun j u hj => ?_⟩
    have := World.ownsRow.cells h (g := g) rfl j u hj
    rwa [Go.WideShapes.add_plain] at this
theorem ROwn.cut (o : R.Ok) {w : World} {ao : Option Addr} {n cap : Nat} {L : List α} (h : ROwn R w (.slice ao n cap) L) {k : Nat} (hk : k ≤ L.length) : ROwn R w (.slice ao k cap) (L.take k) := by
  have hl : (L.take k).length = k := by rw [List.length_take]; omega
  rcases h.2 with ⟨hv, hz⟩ | ⟨g, cap', cur, hv, hB, hg, hnc, hcm, hcs, htake⟩
  · cases hv
    have hk0 : k = 0 := by omega
    subst hk0
    exact ⟨by simp [RowTy.flat], .inl ⟨rfl, by simp⟩⟩
  · cases hv
    refine ⟨by rw [flat_length o, hl], .inr ⟨g, cap, cur, by rw [hl], hB, hg, by rw [hl]; omega, hcm, hcs, ?_⟩⟩
    rw [hl, flat_take o, ← htake, List.take_take]
    congr 1
    rw [Nat.min_eq_left (Nat.mul_le_mul_right _ hk)]
/-- Where its cells lie, and that they may be written. -/
theorem ROwn.at (o : R.Ok) {w : World} {ao : Option Addr} {n cap : Nat} {L : List α} (h : ROwn R w (.slice ao n cap) L) (h0 : 0 < L.length) : ∃ g, ao = some ⟨g, 0, none⟩ ∧ g < w.heap.size ∧
    (∀ (k : Nat) x, L[k]? = some x → ∀ j u, (R.cs x)[j]? = some u → w.cell? ⟨g, k * R.n + j, none⟩ = some u) ∧ ∀ j, w.frozen? ⟨g, j, none⟩ = false := by
  have hlt := World.ownsRow.lt h
  have hcs := fun g hg => World.ownsRow.cells h (g := g) hg
  rcases h.2 with ⟨hv, hz⟩ | ⟨g, cap', cur, hv, _, hg, _⟩
  · omega
  · simp only [Value.slice.injEq] at hv
    obtain ⟨rfl, _, _⟩ := hv
    refine ⟨g, rfl, (hlt g rfl).2, fun k x hk j u hj => ?_, fun j => Lib.frozen_of_heap hg j⟩
    have := hcs g rfl _ _ (flat_get o hk hj)
    rwa [Go.WideShapes.add_plain, Nat.zero_add] at this
/-- One cell turned. -/
theorem ROwn.put (o : R.Ok) {w : World} {g n cap : Nat} {L : List α} (h : ROwn R w (.slice (some ⟨g, 0, none⟩) n cap) L) {k j : Nat} {x x' : α} {u : Value} (hk : L[k]? = some x) (hj : j < R.n) (hx : R.cs x' = (R.cs x).set j u) :
    ROwn R (w.setCell ⟨g, k * R.n + j, none⟩ u) (.slice (some ⟨g, 0, none⟩) n cap) (L.set k x') := by
  rcases h.2 with ⟨hv, _⟩ | ⟨g', cap', cur, hv, hB, hg, hnc, hcm, hcs, htake⟩
  · cases hv
  · simp only [Value.slice.injEq, Option.some.injEq, Addr.mk.injEq] at hv
    obtain ⟨⟨rfl, _⟩, rfl, rfl⟩ := hv
    refine ⟨by rw [flat_length o], .inr ⟨g, cap, cur.setIfInBounds (k * R.n + j) u, by rw [List.length_set], hB, ?_, by rw [List.length_set]; exact hnc, hcm, by simpa using hcs, ?_⟩⟩
    · simp [World.setCell, Array.getElem?_modify, hg]
    · rw [Array.toList_setIfInBounds, List.length_set, List.take_set, htake, flat_put o hk hj hx]
/-- append(v, u..). -/
theorem run_app (o : R.Ok) (w : World) (ty : TypeId) (v u : Value) (L M : List α) (hown : ROwn R w v L) (hu : RAt R w u M) (hb : L.length + M.length ≤ 10000000) :
    ∃ ao cap w', (Builtin.append_ #[R.st, R.st] ty #[v, u]).run Tryz.prog w = .ok (.slice ao (L.length + M.length) cap) w' ∧ ROwn R w' (.slice ao (L.length + M.length) cap) (L ++ M) ∧ w.grownBy w' v.ownBlock ∧ ((Value.slice ao (L.length + M.length) cap).ownBlock = v.ownBlock ∨ (Value.slice ao (L.length + M.length) cap).ownBlock = some w.heap.size) := by
  obtain ⟨a, c, rfl, _, hn, _, hc⟩ := hu
  obtain ⟨i0, hi, hz0, hz1, hz2⟩ := o.parts
  cases a with
  | some ad =>
    have hcells : ∀ j x, (R.flat M)[j]? = some x → w.cell? (ad.add j) = some x := by
      intro j x hx
      obtain ⟨sb, so, e, _, hxs⟩ := hc (by intro e; subst e; simp [RowTy.flat] at hx)
      cases e
      rw [Go.WideShapes.add_plain]
      exact hxs j x hx
    have hby : (L.length + M.length) * R.bytes ≤ 140737488355328 := Nat.le_trans (Nat.mul_le_mul hb o.small) (by omega)
    obtain ⟨v', w', hrun, h2, h3, _, h5⟩ := run_append_own_at (P := Tryz.prog) w 0 R.st ty R.el i0 R.zero R.n R.bytes o.under hi hz0 hz1 hz2 o.zs o.pos v L.length (R.flat L) hown ad M.length c (R.flat M) (flat_length o M) hcells (flat_one o M) (by unfold maxLen; omega) hby (Nat.zero_le _)
    have hrow : ROwn R w' v' (L ++ M) := by
      unfold ROwn
      rw [List.length_append, flat_append]
      exact h2
    obtain ⟨ao, cap, rfl, _, _⟩ := hrow.slice
    rw [List.length_append] at hrun hrow h5
    exact ⟨ao, cap, w', hrun, hrow, h3, h5⟩
  | none =>
    have hM : M = [] := by
      by_cases h : M = []
      · exact h
      · obtain ⟨_, _, e, _⟩ := hc h
        cases e
    subst hM
    obtain ⟨ao, cap, hv, hnc', _⟩ := hown.slice
    subst hv
    refine ⟨ao, cap, w, ?_, by simpa using hown, World.grownBy.refl w _, .inl rfl⟩
    rcases hown.2 with ⟨hv, h0⟩ | ⟨g, cap', cur, hv, _, _, hnc, _⟩
    · simp only [Value.slice.injEq] at hv
      obtain ⟨rfl, e1, rfl⟩ := hv
      simp [e1, Builtin.append_, run_underlying o.under, sizeOf, typeInfo, hi, Builtin.lenOf, Builtin.firstCells]
    · simp only [Value.slice.injEq] at hv
      obtain ⟨rfl, _, rfl⟩ := hv
      simp [Builtin.append_, run_underlying o.under, sizeOf, typeInfo, hi, Builtin.lenOf, Builtin.firstCells, hnc, storeCells]
/-- A row that was made since w. -/
structure RMid (R : RowTy α) (w wr : World) (v : Value) (L : List α) : Prop where
  row : ROwn R wr v L
  new : ∀ b, v.ownBlock = some b → w.heap.size ≤ b
  below : Below w.heap.size w wr
theorem rMid_nil (w : World) : RMid R w w (.slice none 0 0) [] := ⟨rOwn_nil w, fun b e => by simp [Value.ownBlock] at e, Below.refl _ _⟩
theorem RMid.later {w wr wy : World} {v : Value} {L : List α} (h : RMid R w wr v L) (hb : Below wr.heap.size wr wy) : RMid R w wy v L := ⟨h.row.below hb, h.new, h.below.trans (hb.mono h.below.size)⟩
theorem rMid_empty {w wx : World} {g : Nat} (hb : Below w.heap.size w wx) (hg : own wx g #[] R.el) (h : w.heap.size ≤ g) : RMid R w wx (.slice (some ⟨g, 0, none⟩) 0 0) [] := ⟨rOwn_empty hg, fun b e => by cases e; exact h, hb⟩
theorem RMid.app (o : R.Ok) {w wx : World} {v u : Value} {L M : List α} (ty : TypeId) (h : RMid R w wx v L) (hu : RAt R wx u M) (hl : L.length + M.length ≤ 10000000) :
    ∃ ao cap w5, (Builtin.append_ #[R.st, R.st] ty #[v, u]).run Tryz.prog wx = .ok (.slice ao (L.length + M.length) cap) w5 ∧ RMid R w w5 (.slice ao (L.length + M.length) cap) (L ++ M) ∧ (∀ b, b < wx.heap.size → v.ownBlock ≠ some b → w5.heap[b]? = wx.heap[b]?) := by
  have hw := h.below.size
  obtain ⟨ao, cap, w5, hr, hrow, hg, hat⟩ := run_app o wx ty v u L M h.row hu hl
  refine ⟨ao, cap, w5, hr, ⟨hrow, fun b e => ?_, h.below.grown hg hw h.new⟩, fun b hb hne => (Chg.of_grown hg).block b hb hne⟩
  rcases hat with k | k
  · exact h.new b (by rw [← k]; exact e)
  · rw [k] at e; cases e; omega
/-- One thing put behind: its box has just been laid. -/
theorem RMid.push (o : R.Ok) {w wr : World} {v : Value} {L : List α} (h : RMid R w wr v L) (ty T : TypeId) (x : α) (cs : Array Value) (hc : cs.toList = R.cs x) (hl : L.length ≤ 1000000) :
    ∃ ao cap w5, (Builtin.append_ #[R.st, R.st] ty #[v, .slice (some ⟨wr.heap.size, 0, none⟩) 1 1]).run Tryz.prog (wr.alloc (.cells cs T)) = .ok (.slice ao (L.length + 1) cap) w5 ∧ RMid R w w5 (.slice ao (L.length + 1) cap) (L ++ [x]) := by
  have hb : Below wr.heap.size wr (wr.alloc (.cells cs T)) := (Below.refl _ _).alloc (Nat.le_refl _) _
  obtain ⟨ao, cap, w5, hr, hm, _⟩ := (h.later hb).app o ty (rAt_box o (own.new wr cs T) hc) (by simp; omega)
  exact ⟨ao, cap, w5, hr, hm⟩
end

/-- A call of append at the operation (no drawn region), by an equation on its run; the world and what is read as equations of their own. -/
theorem wpList_append_at {w wx w' : World} {ops : Array Oper} {rest : List Oper} {o : Oper} {a : Act} {Q : Exit → Act → World → Prop} {t u ty : TypeId} {v s v' : Value} (hr : (Builtin.append_ #[t, u] ty #[v, s]).run Tryz.prog wx = .ok v' w')
    (hw : w = wx) (hgd : o.guard = none) (sl x : Operand) (ho : o.op = .call { callee := .builtin .append, args := #[sl, x], argTypes := #[t, u] }) (hty : o.type = ty) (hs : a.eval sl = v) (hx : a.eval x = s)
    (h : wpList Tryz.prog ops Q rest (a.put o.dst v') w') : wpList Tryz.prog ops Q (o :: rest) a w := by
  subst hw hty
  refine wpList_plain hgd fun K hK => ?_
  unfold Oper.wp execOp
  simp only [ho, resolve, invoke, builtin, Sem.run_bind, Sem.run_pure, Result.andThen_ok, List.map_toArray, List.map_cons, List.map_nil, hs, hx, hr]
  exact hK _ _ h
/-- .. in a drawn region. -/
theorem step_append_at {ops : Array Oper} {o : Oper} {a : Act} {w wx w' : World} {K : Act → World → Prop} {Q : Exit → Act → World → Prop} {E : Prop} {t u ty : TypeId} {v y v' : Value} (hr : (Builtin.append_ #[t, u] ty #[v, y]).run Tryz.prog wx = .ok v' w')
    (hw : w = wx) (hg : o.guard = none) (s x : Operand) (hop : o.op = Op.call { callee := Callee.builtin Builtin.append, args := #[s, x], argTypes := #[t, u] }) (hty : o.type = ty)
    (hs : a.eval s = v) (hx : a.eval x = y) (hK : K (a.put o.dst v') w') :
    if Region.wanted o (yielded ops a.tmps) = true then Oper.wp Tryz.prog o a w K Q else E := by
  subst hw hty
  have hw : Region.wanted o (yielded ops a.tmps) = true := by simp [Region.wanted, hg]
  rw [if_pos hw]
  unfold Oper.wp
  simp [execOp, hop, resolve, invoke, builtin, hs, hx, hr, Result.andThen]
  exact hK
end Go.Proofs.YtbccikefccdekaaGreatDoor.Gr
namespace Go.Proofs.YtbccikefccdekaaGreatDoor.Gr
open Go.RowKit
set_option linter.unusedVariables false
set_option maxRecDepth 100000

section
variable {α : Type} {T : RowTy α}
structure GPut (T : RowTy α) (w : World) (lv : Value) (L : List α) (x : α) (cs : Array Value) (W : World) (g0 gF : Nat) (lay : Bool) (a1 : Option Addr) (b1 : Nat) (w1 : World) (a2 : Option Addr) (b2 : Nat) (w2 : World) : Prop where
  e1 : (Builtin.append_ #[T.st, T.st] T.st #[.slice (some ⟨g0, 0, none⟩) 0 0, lv]).run Tryz.prog W = .ok (.slice a1 L.length b1) w1
  b1w : Below w.heap.size w w1
  e2 : (Builtin.append_ #[T.st, T.st] T.st #[.slice a1 L.length b1, .slice (some ⟨if lay then w1.heap.size else gF, 0, none⟩) 1 1]).run Tryz.prog (if lay then w1.alloc (.cells cs T.el) else w1) = .ok (.slice a2 (L.length + 1) b2) w2
  row : RMid T w w2 (.slice a2 (L.length + 1) b2) (L ++ [x])
theorem gput_plan1 (o : T.Ok) {w wx : World} {lv : Value} {L : List α} {g0 : Nat} (hv : RAt T w lv L) (hl : L.length ≤ 100000) (hm : RMid T w wx (.slice (some ⟨g0, 0, none⟩) 0 0) []) :
    ∃ a1 b1 w1, (Builtin.append_ #[T.st, T.st] T.st #[.slice (some ⟨g0, 0, none⟩) 0 0, lv]).run Tryz.prog wx = .ok (.slice a1 L.length b1) w1 ∧ RMid T w w1 (.slice a1 L.length b1) L ∧ (∀ b, b < wx.heap.size → b ≠ g0 → w1.heap[b]? = wx.heap[b]?) := by
  obtain ⟨a1, b1, w1, e1, m1, k1⟩ := hm.app o T.st (hv.below hm.below) (by simp; omega)
  have z1 : ([] : List α).length + L.length = L.length := by simp
  rw [z1] at e1 m1
  rw [List.nil_append] at m1
  exact ⟨a1, b1, w1, e1, m1, fun b hb hne => k1 b hb (fun e => hne (by cases e; rfl))⟩
theorem gput_plan2 (o : T.Ok) {w wx : World} {L : List α} (hl : L.length ≤ 100000) {v1 : Value} {gF : Nat} {x : α} {cs : Array Value} (hcs : cs.toList = T.cs x) (hm : RMid T w wx v1 L) (ho : own wx gF cs T.el) :
    ∃ a2 b2 w2, (Builtin.append_ #[T.st, T.st] T.st #[v1, .slice (some ⟨gF, 0, none⟩) 1 1]).run Tryz.prog wx = .ok (.slice a2 (L.length + 1) b2) w2 ∧ RMid T w w2 (.slice a2 (L.length + 1) b2) (L ++ [x]) := by
  obtain ⟨a2, b2, w2, e2, m2, _⟩ := hm.app o T.st (rAt_box o ho hcs) (by simp; omega)
  exact ⟨a2, b2, w2, e2, m2⟩
theorem gput_runs (o : T.Ok) {w : World} {lv : Value} {L : List α} (hv : RAt T w lv L) (hl : L.length ≤ 100000) (x : α) (cs : Array Value) (hcs : cs.toList = T.cs x) :
    (∃ a1 b1 w1 a2 b2 w2, GPut T w lv L x cs ((w.alloc (.cells #[] T.el)).alloc (.cells cs T.el)).drew w.heap.size (w.heap.size + 1) false a1 b1 w1 a2 b2 w2) ∧
    (∃ a1 b1 w1 a2 b2 w2, GPut T w lv L x cs ((w.alloc (.cells cs T.el)).alloc (.cells #[] T.el)).drew (w.heap.size + 1) w.heap.size false a1 b1 w1 a2 b2 w2) ∧
    (∃ a1 b1 w1 a2 b2 w2, GPut T w lv L x cs (w.alloc (.cells #[] T.el)).drew w.heap.size 0 true a1 b1 w1 a2 b2 w2) := by
  have z0 : (w.alloc (.cells #[] T.el)).heap.size = w.heap.size + 1 := by simp
  have z1 : (w.alloc (.cells cs T.el)).heap.size = w.heap.size + 1 := by simp
  have B0 : Below w.heap.size w (w.alloc (.cells #[] T.el)).drew := (Below.alloc (Below.refl _ _) (Nat.le_refl _) _).drew
  have B01 : Below w.heap.size w ((w.alloc (.cells #[] T.el)).alloc (.cells cs T.el)).drew := (Below.alloc (Below.alloc (Below.refl _ _) (Nat.le_refl _) _) (by simp) _).drew
  have B10 : Below w.heap.size w ((w.alloc (.cells cs T.el)).alloc (.cells #[] T.el)).drew := (Below.alloc (Below.alloc (Below.refl _ _) (Nat.le_refl _) _) (by simp) _).drew
  have R0 : RMid T w _ (.slice (some ⟨w.heap.size, 0, none⟩) 0 0) [] := rMid_empty B0 (own.new w #[] _) (Nat.le_refl _)
  have R01 : RMid T w _ (.slice (some ⟨w.heap.size, 0, none⟩) 0 0) [] := rMid_empty B01 (own.same (own.new w #[] T.el) ((Below.alloc (Below.refl _ _) (Nat.le_refl _) (.cells cs T.el)).block _ (by rw [z0]; omega))) (Nat.le_refl _)
  have R10 : RMid T w _ (.slice (some ⟨w.heap.size + 1, 0, none⟩) 0 0) [] := rMid_empty B10 (by rw [← z1]; exact own.new (w.alloc (.cells cs T.el)) #[] _) (by omega)
  have O01 : own ((w.alloc (.cells #[] T.el)).alloc (.cells cs T.el)).drew (w.heap.size + 1) cs T.el := by rw [← z0]; exact own.new (w.alloc (.cells #[] T.el)) _ _
  have O10 : own ((w.alloc (.cells cs T.el)).alloc (.cells #[] T.el)).drew w.heap.size cs T.el := own.same (own.new w _ T.el) ((Below.alloc (Below.refl _ _) (Nat.le_refl _) (.cells #[] T.el)).block _ (by rw [z1]; omega))
  refine ⟨?_, ?_, ?_⟩
  · obtain ⟨a1, b1, w1, e1, m1, k1⟩ := gput_plan1 o hv hl R01
    obtain ⟨a2, b2, w2, e2, hT⟩ := gput_plan2 o hl hcs m1 (own.same O01 (k1 _ O01.lt (by omega)))
    exact ⟨a1, b1, w1, a2, b2, w2, e1, m1.below, e2, hT⟩
  · obtain ⟨a1, b1, w1, e1, m1, k1⟩ := gput_plan1 o hv hl R10
    obtain ⟨a2, b2, w2, e2, hT⟩ := gput_plan2 o hl hcs m1 (own.same O10 (k1 _ O10.lt (by omega)))
    exact ⟨a1, b1, w1, a2, b2, w2, e1, m1.below, e2, hT⟩
  · obtain ⟨a1, b1, w1, e1, m1, k1⟩ := gput_plan1 o hv hl R0
    have bC : Below w1.heap.size w1 (w1.alloc (.cells cs T.el)) := Below.alloc (Below.refl _ _) (Nat.le_refl _) _
    obtain ⟨a2, b2, w2, e2, hT⟩ := gput_plan2 o hl hcs (m1.later bC) (own.new w1 _ T.el)
    exact ⟨a1, b1, w1, a2, b2, w2, e1, m1.below, e2, hT⟩
end
end Go.Proofs.YtbccikefccdekaaGreatDoor.Gr

