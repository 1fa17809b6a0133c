/-
  LAYER 5 (agenda): HOW AN AGENDA LIES IN MEMORY: a struct of two cells: a row of items, a map from numbers to places.
-/
import Derived.Test.YtmjgkhjjnfoolaaAg0
namespace Go.Proofs.Ytmjgkhjjnfoolaa
open Go.RowKit Go.Maps
set_option linter.unusedVariables false
set_option maxRecDepth 100000

def icells (e : It) : List Value := [.int .i64 e.1, .int .i64 e.2]
def flatI (L : List It) : List Value := L.flatMap icells
theorem flatI_length (L : List It) : (flatI L).length = L.length * 2 := by
  induction L with
  | nil => rfl
  | cons f r ih => simp only [flatI, List.flatMap_cons, List.length_append, List.length_cons] at *; rw [ih]; simp [icells]; omega
theorem flatI_cons (e : It) (r : List It) : flatI (e :: r) = icells e ++ flatI r := rfl
theorem flatI_append (A C : List It) : flatI (A ++ C) = flatI A ++ flatI C := by simp [flatI]
theorem flatI_get : ∀ {L : List It} {i k : Nat} (hi : i < L.length), k < 2 → (flatI L)[i * 2 + k]? = (icells L[i])[k]?
  | f :: r, 0, k, hi, hk => by
    rw [flatI_cons, Nat.zero_mul, Nat.zero_add, List.getElem?_append_left (by simp [icells]; omega)]; rfl
  | f :: r, i + 1, k, hi, hk => by
    rw [flatI_cons, List.getElem?_append_right (by simp [icells]; omega)]
    have : (i + 1) * 2 + k - (icells f).length = i * 2 + k := by simp [icells]; omega
    rw [this, flatI_get (by simpa using hi) hk]
    rfl
theorem flatI_one (L : List It) : ∀ u ∈ flatI L, u.oneCell' = true := by
  intro u hu
  obtain ⟨f, _, hf⟩ := List.mem_flatMap.1 hu
  simp [icells] at hf
  rcases hf with rfl | rfl <;> rfl
theorem flatI_take (L : List It) : ∀ k, flatI (L.take k) = (flatI L).take (k * 2)
  | 0 => by simp [flatI]
  | k + 1 => by
    cases L with
    | nil => simp [flatI]
    | cons e r =>
      rw [List.take_succ_cons, flatI_cons, flatI_cons, flatI_take r k, show (k + 1) * 2 = (icells e).length + k * 2 by simp [icells]; omega, List.take_length_add_append]
theorem flatI_set : ∀ (L : List It) (k : Nat) (x : It), flatI (L.set k x) = ((flatI L).set (k * 2) (.int .i64 x.1)).set (k * 2 + 1) (.int .i64 x.2)
  | [], k, x => by simp [flatI]
  | e :: r, 0, x => by simp [flatI, icells]
  | e :: r, k + 1, x => by
    rw [List.set_cons_succ, flatI_cons, flatI_cons, flatI_set r k x]
    rw [show (k + 1) * 2 = k * 2 + 1 + 1 by omega, show k * 2 + 1 + 1 + 1 = (k * 2 + 1) + 1 + 1 by omega]
    simp [icells, List.set_cons_succ]
def ItRow (w : World) (v : Value) (L : List It) : Prop := w.ownsRow 0 60 2 v L.length (flatI L)
theorem ItRow.slice {w : World} {v : Value} {L : List It} (h : ItRow w v L) : ∃ ao cap, v = .slice ao L.length cap ∧ L.length ≤ cap ∧ (ao = none → cap = 0) ∧ cap ≤ maxLen := by
  rcases h.2 with ⟨hv, hz⟩ | ⟨g, cap, cur, rfl, _, _, hnc, hcm, _⟩
  · exact ⟨none, 0, by rw [hv, hz], by omega, fun _ => rfl, Nat.zero_le _⟩
  · exact ⟨_, cap, rfl, hnc, fun e => (by cases e), hcm⟩
theorem ItRow.same {w w' : World} {v : Value} {L : List It} (h : ItRow w v L) (hs : ∀ b, v.ownBlock = some b → w'.heap[b]? = w.heap[b]?) : ItRow w' v L := ownsRow_same h hs
theorem ItRow.cut {w : World} {ao : Option Addr} {n cap : Nat} {L : List It} (h : ItRow w (.slice ao n cap) L) {k : Nat} (hk : k ≤ L.length) : ItRow w (.slice ao k cap) (L.take k) := by
  have hl : (L.take k).length = k := by rw [List.length_take]; omega
  rcases h.2 with ⟨hv, hz⟩ | ⟨g, cap', cur, hv, hB, hg, hnc, hcm, hcs, htake⟩
  · cases hv
    have hk0 : k = 0 := by omega
    subst hk0
    exact ⟨by simp [flatI], .inl ⟨rfl, by simp⟩⟩
  · cases hv
    refine ⟨by rw [flatI_length, hl], .inr ⟨g, cap, cur, by rw [hl], hB, hg, by rw [hl]; omega, hcm, hcs, ?_⟩⟩
    rw [hl, flatI_take, ← htake, List.take_take]
    congr 1
    omega
/-- Where its cells lie. -/
theorem ItRow.at {w : World} {ao : Option Addr} {n cap : Nat} {L : List It} (h : ItRow w (.slice ao n cap) L) (h0 : 0 < L.length) : ∃ g, ao = some ⟨g, 0, none⟩ ∧ g < w.heap.size ∧
    (∀ (k : Nat), k < L.length → w.cell? ⟨g, k * 2, none⟩ = some (.int .i64 (gt L k).1) ∧ w.cell? ⟨g, k * 2 + 1, none⟩ = some (.int .i64 (gt L k).2)) ∧ ∀ j, w.frozen? ⟨g, j, none⟩ = false := by
  have hlt := World.ownsRow.lt h
  have hcs := fun g hg => World.ownsRow.cells h (g := g) hg
  rcases h.2 with ⟨hv, hz⟩ | ⟨g, cap', cur, hv, _, hg, _⟩
  · omega
  · simp only [Value.slice.injEq] at hv
    obtain ⟨rfl, _, _⟩ := hv
    have hadd : ∀ j, (⟨g, 0, none⟩ : Addr).add j = ⟨g, j, none⟩ := fun j => by unfold Addr.add; split <;> simp_all
    refine ⟨g, rfl, (hlt g rfl).2, fun k hk => ⟨?_, ?_⟩, fun j => Lib.frozen_of_heap hg j⟩
    · have := hcs g rfl (k * 2 + 0) _ ((flatI_get hk (by omega)).trans rfl)
      rw [hadd] at this
      rw [gt_of hk]; exact this
    · have := hcs g rfl (k * 2 + 1) _ ((flatI_get hk (by omega)).trans rfl)
      rw [hadd] at this
      rw [gt_of hk]; exact this
/-- An item stored. -/
theorem ItRow.set {w : World} {g n cap : Nat} {L : List It} (h : ItRow w (.slice (some ⟨g, 0, none⟩) n cap) L) (k : Nat) (x : It) :
    ItRow ((w.setCell ⟨g, k * 2, none⟩ (.int .i64 x.1)).setCell ⟨g, k * 2 + 1, none⟩ (.int .i64 x.2)) (.slice (some ⟨g, 0, none⟩) n cap) (L.set k x) := by
  rcases h.2 with ⟨hv, _⟩ | ⟨g', cap', cur, hv, hB, hg, hnc, hcm, hcs, htake⟩
  · cases hv
  · simp only [Value.slice.injEq, Option.some.injEq, Addr.mk.injEq] at hv
    obtain ⟨⟨rfl, _⟩, rfl, rfl⟩ := hv
    refine ⟨by rw [flatI_length], .inr ⟨g, cap, (cur.setIfInBounds (k * 2) (.int .i64 x.1)).setIfInBounds (k * 2 + 1) (.int .i64 x.2), by rw [List.length_set], hB, ?_, by rw [List.length_set]; exact hnc, hcm, by simpa using hcs, ?_⟩⟩
    · simp [World.setCell, Array.getElem?_modify, hg]
    · rw [Array.toList_setIfInBounds, Array.toList_setIfInBounds, List.length_set, List.take_set, List.take_set, htake, flatI_set]
theorem ownBlock_sl (ao : Option Addr) (n m cap : Nat) : (Value.slice ao n cap).ownBlock = (Value.slice ao m cap).ownBlock := by cases ao <;> rfl

theorem infoItem : (Try.prog.info? 60).map (fun i => (i.zero, i.size, i.bytes)) = some (some (.agg #[.int .i64 0, .int .i64 0]), 2, 16) := by kernel_rfl
theorem infoItem_parts : ∃ i, Try.prog.info? 60 = some i ∧ i.zero = some (.agg #[.int .i64 0, .int .i64 0]) ∧ i.size = 2 ∧ i.bytes = 16 := by
  obtain ⟨i, hi, hz⟩ := Option.map_eq_some_iff.1 infoItem
  simp only [Prod.mk.injEq] at hz
  exact ⟨i, hi, hz.1, hz.2.1, hz.2.2⟩
/-- An item put behind a row. -/
theorem run_item (w : World) (ty : TypeId) (v : Value) (L : List It) (e : It) (gb : Nat) (hown : ItRow w v L) (hr : own w gb #[.int .i64 e.1, .int .i64 e.2] 60) (hb : L.length ≤ 100000) :
    ∃ ao cap w', (Builtin.append_ #[53, 53] ty #[v, .slice (some ⟨gb, 0, none⟩) 1 1]).run Try.prog w = .ok (.slice ao (L.length + 1) cap) w' ∧ ItRow w' (.slice ao (L.length + 1) cap) (L ++ [e]) ∧ w.grownBy w' v.ownBlock ∧ ((Value.slice ao (L.length + 1) cap).ownBlock = v.ownBlock ∨ (Value.slice ao (L.length + 1) cap).ownBlock = some w.heap.size) := by
  obtain ⟨i0, hi, hz0, hz1, hz2⟩ := infoItem_parts
  have hcells : ∀ j u, (flatI [e])[j]? = some u → w.cell? ((⟨gb, 0, none⟩ : Addr).add j) = some u := by
    intro j u hu
    rw [show (⟨gb, 0, none⟩ : Addr).add j = ⟨gb, 0 + j, none⟩ from Go.WideShapes.add_plain .., Nat.zero_add, own.cell hr j]
    have : flatI [e] = icells e := by simp [flatI]
    rw [this] at hu
    simpa [icells] using hu
  obtain ⟨v', w', hrun, h2, h3, _, h5⟩ := run_append_own_at (P := Try.prog) w 0 53 ty 60 i0 _ 2 16 Try.underlying53 hi hz0 hz1 hz2 rfl (by omega) v L.length (flatI L) hown ⟨gb, 0, none⟩ 1 1 (flatI [e]) (by rw [flatI_length]; rfl) hcells (flatI_one [e]) (by unfold maxLen; omega) (by omega) (Nat.zero_le _)
  have hrow : ItRow w' v' (L ++ [e]) := by
    unfold ItRow
    rw [List.length_append, flatI_append]
    exact h2
  obtain ⟨ao, cap, rfl, _, _⟩ := hrow.slice
  rw [List.length_append] at hrun hrow h5
  exact ⟨ao, cap, w', hrun, hrow, h3, h5⟩

/-! ### the map from numbers to places -/
abbrev MD := DataW Unit
def ky (id : Int) : Lit := .int .i64 id
theorem ky_key (id : Int) : WideAt.IsKeyLit (ky id) := trivial
theorem ky_ne {a b : Int} (h : a ≠ b) : ky a ≠ ky b := fun e => h (by cases e; rfl)
structure Places (D : MD) (L : List It) : Prop where
  tidy : Tidy D
  size : Maps.size D = L.length
  at_ : ∀ k, k < L.length → Maps.has D (ky (gt L k).2) = true ∧ ∀ z, D.atKey (ky (gt L k).2) z = .lit (.int .i64 (k : Int))
  no : ∀ id, (∀ x ∈ L, x.2 ≠ id) → Maps.has D (ky id) = false
theorem places_nil : Places (.map []) [] := ⟨tidy_empty, rfl, fun k hk => by simp at hk, fun _ _ => rfl⟩
theorem gt_snd_ne {L : List It} (hn : (L.map Prod.snd).Nodup) {i j : Nat} (hi : i < L.length) (hj : j < L.length) (hij : i ≠ j) : (gt L i).2 ≠ (gt L j).2 := by
  rw [gt_of hi, gt_of hj]
  intro e
  have h1 : (L.map Prod.snd)[i]'(by simpa using hi) = (L.map Prod.snd)[j]'(by simpa using hj) := by simpa using e
  exact hij ((List.getElem_inj hn).1 h1)
theorem Places.snoc {D : MD} {L : List It} (h : Places D L) {x : It} (hx : ∀ y ∈ L, y.2 ≠ x.2) : Places (D.put (ky x.2) (.lit (.int .i64 (L.length : Int)))) (L ++ [x]) := by
  have hh := h.no x.2 hx
  refine ⟨h.tidy.put (ky_key _) _, by rw [size_put h.tidy, hh, h.size]; simp, fun k hk => ?_, fun id hid => ?_⟩
  · rw [List.length_append, List.length_singleton] at hk
    by_cases e : k = L.length
    · subst e
      rw [gt_snoc_eq]
      exact ⟨has_put_same h.tidy.isMap (ky_key _) _, fun z => atKey_put_same h.tidy.isMap (ky_key _) _ z⟩
    · have hk' : k < L.length := by omega
      rw [gt_snoc_lt hk']
      have hne := ky_ne (hx _ (gt_mem hk'))
      obtain ⟨h1, h2⟩ := h.at_ k hk'
      exact ⟨by rw [has_put_other hne]; exact h1, fun z => by rw [atKey_put_other hne]; exact h2 z⟩
  · have hne := ky_ne (fun e => hid x (by simp) e.symm : id ≠ x.2)
    rw [has_put_other hne]
    exact h.no id (fun y hy => hid y (by simp [hy]))
theorem Places.swap {D : MD} {L : List It} (h : Places D L) (hn : (L.map Prod.snd).Nodup) {i j : Nat} (hi : i < L.length) (hj : j < L.length) (hij : i ≠ j) :
    Places ((D.put (ky (gt L j).2) (.lit (.int .i64 (i : Int)))).put (ky (gt L i).2) (.lit (.int .i64 (j : Int)))) (sw L i j) := by
  have hne : (gt L i).2 ≠ (gt L j).2 := gt_snd_ne hn hi hj hij
  have t1 := h.tidy.put (ky_key (gt L j).2) (.lit (.int .i64 (i : Int)))
  have hp := sw_perm hi hj
  have hh2 : Maps.has (D.put (ky (gt L j).2) (.lit (.int .i64 (i : Int)))) (ky (gt L i).2) = true := by
    rw [has_put_other (ky_ne hne)]; exact (h.at_ i hi).1
  refine ⟨t1.put (ky_key _) _, ?_, fun k hk => ?_, fun id hid => ?_⟩
  · rw [size_put t1, hh2, size_put h.tidy, (h.at_ j hj).1, sw_length, if_pos rfl, if_pos rfl, h.size]
  · rw [sw_length] at hk
    rw [gt_sw hi hj]
    by_cases e1 : k = j
    · subst e1
      rw [if_pos rfl]
      exact ⟨has_put_same t1.isMap (ky_key _) _, fun z => atKey_put_same t1.isMap (ky_key _) _ z⟩
    · rw [if_neg e1]
      by_cases e2 : k = i
      · subst e2
        rw [if_pos rfl]
        exact ⟨by rw [has_put_other (ky_ne hne.symm)]; exact has_put_same h.tidy.isMap (ky_key _) _, fun z => by rw [atKey_put_other (ky_ne hne.symm)]; exact atKey_put_same h.tidy.isMap (ky_key _) _ z⟩
      · rw [if_neg e2]
        have n1 := ky_ne (gt_snd_ne hn hk hi e2)
        have n2 := ky_ne (gt_snd_ne hn hk hj e1)
        obtain ⟨h1, h2⟩ := h.at_ k hk
        exact ⟨by rw [has_put_other n1, has_put_other n2]; exact h1, fun z => by rw [atKey_put_other n1, atKey_put_other n2]; exact h2 z⟩
  · have h' : ∀ x ∈ L, x.2 ≠ id := fun x hx => hid x (hp.mem_iff.2 hx)
    rw [has_put_other (ky_ne (fun e => h' _ (gt_mem hi) e.symm)), has_put_other (ky_ne (fun e => h' _ (gt_mem hj) e.symm))]
    exact h.no id h'
theorem Places.pop {D : MD} {M : List It} {x : It} (h : Places D (M ++ [x])) (hn : ((M ++ [x]).map Prod.snd).Nodup) : Places (D.del (ky x.2)) M := by
  have hx : ∀ y ∈ M, y.2 ≠ x.2 := by
    intro y hy e
    rw [List.map_append, List.nodup_append] at hn
    exact hn.2.2 y.2 (List.mem_map.2 ⟨y, hy, rfl⟩) x.2 (by simp) e
  have hh : Maps.has D (ky x.2) = true := by
    have := (h.at_ M.length (by simp)).1
    rwa [gt_snoc_eq] at this
  refine ⟨h.tidy.del _, ?_, fun k hk => ?_, fun id hid => ?_⟩
  · have := size_del (k := ky x.2) h.tidy
    rw [hh, h.size] at this
    simp at this
    exact this
  · have hne := ky_ne (hx _ (gt_mem hk))
    obtain ⟨h1, h2⟩ := h.at_ k (by simp; omega)
    rw [gt_snoc_lt hk] at h1 h2
    exact ⟨by rw [has_del_other hne]; exact h1, fun z => by rw [atKey_del_other hne]; exact h2 z⟩
  · by_cases e : id = x.2
    · subst e; exact has_del_same
    · rw [has_del_other (ky_ne e)]
      exact h.no id (fun y hy => by
        rcases List.mem_append.1 hy with hy | hy
        · exact hid y hy
        · simp at hy; subst hy; exact fun e' => e e'.symm)

noncomputable def EL : Value → Option (MD × List MemPlace) := plainElem Try.prog 3
theorem keyedInt : Keyed Try.prog 3 := int_keyed Try.underlying3
theorem zeroInt (w : World) : (zeroValue 3).run Try.prog w = .ok (.int .i64 0) w := by
  kernel_rfl
theorem wf64 {n : Int} (h : I64 n) : (Lit.int .i64 n).wf = true := by
  unfold I64 at h
  simpa [Lit.wf, IntKind.min, IntKind.max, IntKind.signed, IntKind.bits] using h
theorem keyInt {n : Int} (h : I64 n) : keyOf Try.prog 3 (.int .i64 n) = some (ky n) := keyOf_int_mk Try.underlying3 (wf64 h)
theorem elInt {n : Int} (h : I64 n) : EL (.int .i64 n) = some (.lit (.int .i64 n), []) := plainElem_int Try.underlying3 (wf64 h)
def PMap (w : World) (m : Nat) (D : MD) : Prop := w.ownsMap Try.prog 3 EL m (Maps.size D) D
theorem PMap.same {w w' : World} {m : Nat} {D : MD} (h : PMap w m D) (hs : w'.heap[m]? = w.heap[m]?) : PMap w' m D := ownsMap_same h hs
end Go.Proofs.Ytmjgkhjjnfoolaa
