/-
  LAYER 12 (tree): what turns the builder: words said, an element shut, the root laid, a kid put behind.
-/
import Derived.Test.YthbliboahnjahaaGreatDoorTrRep
namespace Go.Proofs.YthbliboahnjahaaGreatDoor
open Go.RowKit
set_option linter.unusedVariables false
set_option maxRecDepth 100000
section
variable {w0 w w' : World} {ρ : Nat → Nat} {b : Nat} {s : BdX} {ao : Option Addr} {cap : Nat} {V : List ElV} {rx : NdV}
theorem bdAt_out (h : BdAt w0 w ρ b s ao cap V rx) : ∀ g, w.heap.size ≤ g → ρ g = 0 := fun g hg2 => by
  by_cases h0 : ρ g = 0
  · exact h0
  · have := (h.new g h0).2; omega
/-- The innermost open element: its place, its cells. -/
theorem bdAt_last {e : OpX} {st : List OpX} {r : Option Tr} (h : BdAt w0 w ρ b ⟨e :: st, r⟩ ao cap V rx) : ∃ y g, V[st.length]? = some y ∧ V.length = st.length + 1 ∧ ElIs w ρ st.length y e ∧ ao = some ⟨g, 0, none⟩ ∧ g < w.heap.size ∧ ρ g = 3 ∧
    (∀ j u, (elCs y)[j]? = some u → w.cell? ⟨g, st.length * 5 + j, none⟩ = some u) ∧ (∀ j, w.frozen? ⟨g, j, none⟩ = false) := by
  have hl : V.length = st.length + 1 := by rw [h.len]; simp
  obtain ⟨y, hy⟩ : ∃ y, V[st.length]? = some y := ⟨_, List.getElem?_eq_getElem (by omega)⟩
  have he : (⟨e :: st, r⟩ : BdX).op.reverse[st.length]? = some e := by simp
  obtain ⟨g, rfl, hg, hc, hf⟩ := h.opn.at elTy_ok (by omega)
  exact ⟨y, g, hy, hl, h.els _ _ _ hy he, rfl, hg, h.ro g rfl, fun j u hj => hc _ _ hy j u hj, hf⟩
/-- A row's things but one are what they were. -/
theorem set_other {α : Type} {L : List α} {k i : Nat} {x y : α} (h : (L.set k x)[i]? = some y) : (i ≠ k ∧ L[i]? = some y) ∨ (i = k ∧ y = x) := by
  by_cases hi : k = i
  · subst hi
    have hl := (List.getElem?_eq_some_iff.1 h).1
    rw [List.getElem?_set_self (by simpa using hl)] at h
    cases h
    exact .inr ⟨rfl, rfl⟩
  · rw [List.getElem?_set_ne hi] at h
    exact .inl ⟨fun q => hi q.symm, h⟩
theorem rev_cons_get {e d : OpX} {st : List OpX} {i : Nat} (hi : i ≠ st.length) : (e :: st).reverse[i]? = (d :: st).reverse[i]? := by
  rw [List.reverse_cons, List.reverse_cons]
  by_cases h : i < st.length
  · rw [List.getElem?_append_left (by simpa using h), List.getElem?_append_left (by simpa using h)]
  · rw [List.getElem?_eq_none (by simp; omega), List.getElem?_eq_none (by simp; omega)]
/-- Words are put behind those of the innermost element: their box has been laid. -/
theorem bd_say {e : OpX} {st : List OpX} {r : Option Tr} (h : BdAt w0 w ρ b ⟨e :: st, r⟩ ao cap V rx) (t : List UInt8) {y : ElV} {g : Nat} (hy : V[st.length]? = some y) (hao : ao = some ⟨g, 0, none⟩) {gb : Nat} {cs : Array Value} {T : TypeId}
    (hob : own w gb cs T) (hc : cs.toList = [.string (mk t)]) (hl : e.ws.length ≤ 1000000) :
    ∃ a c' w5, (Builtin.append_ #[85, 85] 85 #[.slice y.w y.wm y.wc, .slice (some ⟨gb, 0, none⟩) 1 1]).run Tryz.prog w = .ok (.slice a (e.ws.length + 1) c') w5 ∧ w5.cell? ⟨g, st.length * 5 + 4, none⟩ = some (.slice y.w y.wm y.wc) ∧ w5.frozen? ⟨g, st.length * 5 + 4, none⟩ = false ∧ w5.cell? ⟨b, 0, none⟩ = some (.slice ao V.length cap) ∧
      BdHas w0 (w5.setCell ⟨g, st.length * 5 + 4, none⟩ (.slice a (e.ws.length + 1) c')) b ⟨{ e with ws := e.ws ++ [t] } :: st, r⟩ := by
  obtain ⟨y', g', hy', hl2, hE, hao', hg, hρ, hcs, hfz⟩ := bdAt_last h
  rw [hy] at hy'; cases hy'
  rw [hao] at hao'; cases hao'
  have hEw := hE.hw
  have hwl : y.wm = e.ws.length := by
    obtain ⟨_, _, q, _⟩ := hEw.slice
    simp only [Value.slice.injEq, List.length_map] at q
    exact q.2.1
  obtain ⟨a, c', w5, ee, hro, hgr, hat⟩ := run_app strTy_ok w 85 _ _ (e.ws.map mk) [mk t] hEw (rAt_box strTy_ok hob hc) (by simp; omega)
  simp only [List.length_singleton, List.length_map] at ee hro hat
  have hcg := Chg.of_grown hgr
  have hz := hcg.size
  have hout := bdAt_out h
  have hk : ∀ g, ρ g ≠ 0 → ρ g ≠ 5 + 2 * st.length → w5.heap[g]? = w.heap[g]? := fun g h0 h3 => hcg.block g (h.new g h0).2 (fun q => h3 (hE.hfw g q))
  have hat2 : ∀ g, (Value.slice a (e.ws.length + 1) c').ownBlock = some g → ρ g = 5 + 2 * st.length ∨ g = w.heap.size := fun g hg2 => by
    rcases hat with q | q
    · rw [q] at hg2; exact .inl (hE.hfw g hg2)
    · rw [q] at hg2; cases hg2; exact .inr rfl
  let ρ' : Nat → Nat := fun g => if (Value.slice a (e.ws.length + 1) c').ownBlock = some g then 5 + 2 * st.length else ρ g
  have hrs : ∀ g, ρ g ≠ 0 → ρ g ≠ 5 + 2 * st.length → ρ' g = ρ g := fun g h0 h3 => by
    show (if _ then _ else _) = _
    rw [if_neg (fun q => by
      rcases hat2 g q with k | k
      · exact h3 k
      · exact h0 (hout g (by omega)))]
  have hkeep : ∀ x, ρ x ≠ 0 → ρ x ≠ 5 + 2 * st.length → ρ x ≠ 3 → (w5.setCell ⟨g, st.length * 5 + 4, none⟩ (.slice a (e.ws.length + 1) c')).heap[x]? = w.heap[x]? := fun x h0 h3 h2 => by
    rw [Below.heap_setCell _ _ _ _ (fun q => h2 (by rw [show x = g from q]; exact hρ))]
    exact hk x h0 h3
  have hne : ∀ x, (Value.slice a (e.ws.length + 1) c').ownBlock = some x → x ≠ g := fun x hx q => by
    subst q
    rcases hat2 x hx with k | k
    · omega
    · omega
  have hgk : w5.heap[g]? = w.heap[g]? := hk g (by omega) (by omega)
  have opn5 : ROwn elTy w5 (.slice (some ⟨g, 0, none⟩) V.length cap) V := (hao ▸ h.opn).same (fun x hx => by cases hx; exact hgk)
  have hput : ROwn elTy (w5.setCell ⟨g, st.length * 5 + 4, none⟩ (.slice a (e.ws.length + 1) c')) (.slice (some ⟨g, 0, none⟩) V.length cap) (V.set st.length { y with w := a, wm := e.ws.length + 1, wc := c' }) :=
    opn5.put elTy_ok (k := st.length) (j := 4) hy (by decide) rfl
  have hcell := hcs 4 _ rfl
  refine ⟨a, c', w5, ee, ?_, ?_, by rw [(h.blk.same (hk b (by rw [h.rb]; decide) (by rw [h.rb]; omega))).cell]; rfl, ρ', ao, cap, V.set st.length { y with w := a, wm := e.ws.length + 1, wc := c' }, rx, ?_, ?_, ?_, ?_, ?_, ?_, ?_, ?_, ?_⟩
  · unfold World.cell? at hcell ⊢; rw [hgk]; exact hcell
  · have := hfz (st.length * 5 + 4)
    unfold World.frozen? at this ⊢; rw [hgk]; exact this
  · rw [List.length_set]
    exact h.blk.same (hkeep b (by rw [h.rb]; decide) (by rw [h.rb]; omega) (by rw [h.rb]; decide))
  · rw [List.length_set, hao]; exact hput
  · rw [List.length_set]; simpa using h.len
  · intro i z u hz2 hu
    rcases set_other hz2 with ⟨hi, hz3⟩ | ⟨hi, rfl⟩
    · have hu2 : (⟨e :: st, r⟩ : BdX).op.reverse[i]? = some u := by rw [← hu]; exact rev_cons_get hi
      have hil : i < st.length := by
        have := (List.getElem?_eq_some_iff.1 hz3).1
        omega
      exact elIs_to (h.els i z u hz3 hu2) (fun x hx => ⟨hkeep x (by omega) (by omega) (by omega), hrs x (by omega) (by omega)⟩) (by rw [setCell_size]; exact hz)
    · subst hi
      have : u = { e with ws := e.ws ++ [t] } := by simp at hu; exact hu.symm
      subst this
      obtain ⟨K, k1, k2, k3⟩ := hE.hk
      have s1 : ∀ x, ρ x = 1 → (w5.setCell ⟨g, st.length * 5 + 4, none⟩ (.slice a (e.ws.length + 1) c')).heap[x]? = w.heap[x]? := fun x hx => hkeep x (by omega) (by omega) (by omega)
      refine ⟨hE.hn, hE.ht, rAt_same2 hE.ha (fun hn x hx _ => s1 x (hE.hfa hn x hx)) (by rw [setCell_size]; exact hz), fun hn x hx => by rw [hrs x (by rw [hE.hfa hn x hx]; decide) (by rw [hE.hfa hn x hx]; omega)]; exact hE.hfa hn x hx,
        ⟨K, k1.same (fun x hx => hkeep x (by rw [hE.hfk x hx]; omega) (by rw [hE.hfk x hx]; omega) (by rw [hE.hfk x hx]; omega)), k2, fun j z u hz1 hu1 => ndIn_same (k3 j z u hz1 hu1) (fun x hx _ => s1 x hx) (fun x hx => by rw [hrs x (by omega) (by omega)]; exact hx) (by rw [setCell_size]; exact hz)⟩,
        fun x hx => by rw [hrs x (by rw [hE.hfk x hx]; omega) (by rw [hE.hfk x hx]; omega)]; exact hE.hfk x hx, ?_, fun x hx => if_pos hx⟩
      show ROwn strTy _ _ ((e.ws ++ [t]).map mk)
      rw [List.map_append]
      exact hro.same (fun x hx => by rw [Below.heap_setCell _ _ _ _ (hne x hx)])
  · intro u hu
    exact ndIn_same (h.root u hu) (fun x hx _ => hkeep x (by omega) (by omega) (by omega)) (fun x hx => by rw [hrs x (by omega) (by omega)]; exact hx) (by rw [setCell_size]; exact hz)
  · rw [hrs b (by rw [h.rb]; decide) (by rw [h.rb]; omega)]; exact h.rb
  · intro x hx
    rw [List.length_set] at hx
    have := h.ro x hx
    rw [hrs x (by omega) (by omega)]; exact this
  · intro x hx
    rw [setCell_size]
    by_cases q : (Value.slice a (e.ws.length + 1) c').ownBlock = some x
    · have := hro.lt x q
      refine ⟨?_, by omega⟩
      rcases hat2 x q with k | k
      · exact (h.new x (by omega)).1
      · have := h.below.size; omega
    · have e1 : ρ' x = ρ x := if_neg q
      rw [e1] at hx
      have := h.new x hx
      omega
  · exact (h.below.grown hgr h.below.size (fun x q => (h.new x (by rw [hE.hfw x q]; omega)).1)).setCell (h.new g (by omega)).1 _
theorem ownB_len {ao : Option Addr} {n m c d : Nat} {x : Nat} (h : (Value.slice ao n c).ownBlock = some x) : (Value.slice ao m d).ownBlock = some x := by
  cases ao with
  | none => simp [Value.ownBlock] at h
  | some q => simpa [Value.ownBlock] using h
/-- The innermost element is taken off the row. -/
theorem bd_cut {e : OpX} {st : List OpX} {r : Option Tr} (h : BdAt w0 w ρ b ⟨e :: st, r⟩ ao cap V rx) {y : ElV} (hy : V[st.length]? = some y) :
    ∃ ρ' : Nat → Nat, (∀ x, ρ x = 0 → ρ' x = 0) ∧ BdAt w0 (w.setCell ⟨b, 0, none⟩ (.slice ao st.length cap)) ρ' b ⟨st, r⟩ ao cap (V.take st.length) rx ∧ NdIn atTy ndTy (w.setCell ⟨b, 0, none⟩ (.slice ao st.length cap)) (fun g => ρ' g = 1) { y.x with t := e.ws.flatten } (shutX e) := by
  obtain ⟨y', g', hy', hl2, hE, hao', hg, hρ, hcs, hfz⟩ := bdAt_last h
  rw [hy] at hy'; cases hy'
  have hkeep : ∀ x, ρ x ≠ 2 → (w.setCell ⟨b, 0, none⟩ (.slice ao st.length cap)).heap[x]? = w.heap[x]? := fun x hx => Below.heap_setCell _ _ _ _ (fun q => hx (by rw [show x = b from q]; exact h.rb))
  let ρ' : Nat → Nat := fun g => if ρ g = 4 + 2 * st.length ∨ ρ g = 5 + 2 * st.length then 1 else ρ g
  have hrs : ∀ g, ρ g ≠ 4 + 2 * st.length → ρ g ≠ 5 + 2 * st.length → ρ' g = ρ g := fun g h1 h2 => if_neg (by omega)
  have hr1 : ∀ g, ρ g = 1 → ρ' g = 1 := fun g h1 => by rw [hrs g (by omega) (by omega)]; exact h1
  have htl : (V.take st.length).length = st.length := by rw [List.length_take]; omega
  refine ⟨ρ', fun x hx => by rw [hrs x (by omega) (by omega)]; exact hx, ⟨?_, ?_, htl, ?_, ?_, ?_, ?_, ?_, ?_⟩, ?_⟩
  · rw [htl]
    have := h.blk.set 0 (.slice ao st.length cap); simpa [bdCs] using this
  · rw [htl]
    exact (h.opn.cut elTy_ok (by omega)).same (fun x hx => hkeep x (by
      have : (Value.slice ao V.length cap).ownBlock = some x := ownB_len hx
      rw [h.ro x this]; decide))
  · intro i z u hz hu
    have hil : i < st.length := by
      have := (List.getElem?_eq_some_iff.1 hz).1
      omega
    rw [List.getElem?_take_of_lt hil] at hz
    have hu2 : (⟨e :: st, r⟩ : BdX).op.reverse[i]? = some u := by
      rw [← hu]
      show (e :: st).reverse[i]? = st.reverse[i]?
      rw [List.reverse_cons, List.getElem?_append_left (by simpa using hil)]
    exact elIs_to (h.els i z u hz hu2) (fun x hx => ⟨hkeep x (by omega), hrs x (by omega) (by omega)⟩) (by rw [setCell_size]; exact Nat.le_refl _)
  · intro u hu
    exact ndIn_same (h.root u hu) (fun x hx _ => hkeep x (by omega)) hr1 (by rw [setCell_size]; exact Nat.le_refl _)
  · rw [hrs b (by rw [h.rb]; omega) (by rw [h.rb]; omega)]; exact h.rb
  · intro x hx
    have : (Value.slice ao V.length cap).ownBlock = some x := ownB_len hx
    have := h.ro x this
    rw [hrs x (by omega) (by omega)]; exact this
  · intro x hx
    rw [setCell_size]
    refine h.new x (fun q => hx ?_)
    rw [hrs x (by omega) (by omega)]; exact q
  · exact h.below.setCell (h.new b (by rw [h.rb]; decide)).1 _
  · obtain ⟨K, k1, k2, k3⟩ := hE.hk
    refine .at _ _ K hE.hn rfl (rAt_same2 hE.ha (fun hn x hx _ => hkeep x (by rw [hE.hfa hn x hx]; decide)) (by rw [setCell_size]; exact Nat.le_refl _)) (fun hn x hx => hr1 x (hE.hfa hn x hx)) (k1.rAt.same (fun x hx _ => hkeep x (by rw [hE.hfk x hx]; omega)) (by rw [setCell_size]; exact Nat.le_refl _)) (fun _ x hx => if_pos (.inl (hE.hfk x hx))) k2 (fun i z u hz hu => ?_)
    exact ndIn_same (k3 i z u hz hu) (fun x hx _ => hkeep x (by omega)) hr1 (by rw [setCell_size]; exact Nat.le_refl _)
/-- The first element has ended: it is laid in the builder. -/
def rootW (w : World) (b : Nat) (z : NdV) : World := ((((w.setCell ⟨b, 1, none⟩ (.string (mk z.n))).setCell ⟨b, 2, none⟩ (.slice z.a z.am z.ac)).setCell ⟨b, 3, none⟩ (.string (mk z.t))).setCell ⟨b, 4, none⟩ (.slice z.k z.km z.kc)).setCell ⟨b, 5, none⟩ (.bool true)
theorem bd_root {r : Option Tr} {t : Tr} {z : NdV} (h : BdAt w0 w ρ b ⟨[], r⟩ ao cap V rx) (hz : NdIn atTy ndTy w (fun g => ρ g = 1) z t) : BdHas w0 (rootW w b z) b ⟨[], some t⟩ := by
  have hzs : (rootW w b z).heap.size = w.heap.size := by unfold rootW; simp only [setCell_size]
  have hkeep : ∀ x, ρ x ≠ 2 → (rootW w b z).heap[x]? = w.heap[x]? := fun x hx => by
    have hn : x ≠ b := fun q => hx (by rw [q]; exact h.rb)
    unfold rootW
    rw [Below.heap_setCell _ _ _ _ hn, Below.heap_setCell _ _ _ _ hn, Below.heap_setCell _ _ _ _ hn, Below.heap_setCell _ _ _ _ hn, Below.heap_setCell _ _ _ _ hn]
  have hV : V = [] := List.length_eq_zero_iff.1 (by rw [h.len]; rfl)
  subst hV
  have hbn := (h.new b (by rw [h.rb]; decide)).1
  refine ⟨ρ, ao, cap, [], z, ?_, h.opn.same (fun x hx => hkeep x (by rw [h.ro x hx]; decide)), rfl, fun i y e hy => by simp at hy, fun u hu => ?_, h.rb, h.ro, fun x hx => by rw [hzs]; exact h.new x hx, ?_⟩
  · have := ((((h.blk.set 1 (.string (mk z.n))).set 2 (.slice z.a z.am z.ac)).set 3 (.string (mk z.t))).set 4 (.slice z.k z.km z.kc)).set 5 (.bool true)
    simpa [bdCs, rootW] using this
  · cases hu
    exact ndIn_same hz (fun x hx _ => hkeep x (by omega)) (fun x hx => hx) (by rw [hzs]; exact Nat.le_refl _)
  · unfold rootW
    exact ((((h.below.setCell hbn _).setCell hbn _).setCell hbn _).setCell hbn _).setCell hbn _
/-- Four cells of a row of elements turned. -/
def kidW (w : World) (g n : Nat) (z : NdV) : World := (((w.setCell ⟨g, n * 4, none⟩ (.string (mk z.n))).setCell ⟨g, n * 4 + 1, none⟩ (.slice z.a z.am z.ac)).setCell ⟨g, n * 4 + 2, none⟩ (.string (mk z.t))).setCell ⟨g, n * 4 + 3, none⟩ (.slice z.k z.km z.kc)
theorem set_last {α : Type} (K : List α) (a b : α) : (K ++ [a]).set K.length b = K ++ [b] := by simp
theorem kid_put {w : World} {g n c : Nat} {K : List NdV} {x z : NdV} (h : ROwn ndTy w (.slice (some ⟨g, 0, none⟩) n c) (K ++ [x])) : ROwn ndTy (kidW w g K.length z) (.slice (some ⟨g, 0, none⟩) n c) (K ++ [z]) := by
  have e : ∀ a : NdV, (K ++ [a])[K.length]? = some a := fun a => by simp
  have h1 := h.put ndTy_ok (k := K.length) (j := 0) (x' := { x with n := z.n }) (u := .string (mk z.n)) (e x) (by decide) rfl
  rw [set_last] at h1
  have h2 := h1.put ndTy_ok (k := K.length) (j := 1) (x' := { x with n := z.n, a := z.a, am := z.am, ac := z.ac }) (u := .slice z.a z.am z.ac) (e _) (by decide) rfl
  rw [set_last] at h2
  have h3 := h2.put ndTy_ok (k := K.length) (j := 2) (x' := { x with n := z.n, a := z.a, am := z.am, ac := z.ac, t := z.t }) (u := .string (mk z.t)) (e _) (by decide) rfl
  rw [set_last] at h3
  have h4 := h3.put ndTy_ok (k := K.length) (j := 3) (x' := z) (u := .slice z.k z.km z.kc) (e _) (by decide) rfl
  rw [set_last] at h4
  exact h4
theorem kidW_size (w : World) (g n : Nat) (z : NdV) : (kidW w g n z).heap.size = w.heap.size := by unfold kidW; simp only [setCell_size]
theorem kidW_other (w : World) (g n : Nat) (z : NdV) {x : Nat} (h : x ≠ g) : (kidW w g n z).heap[x]? = w.heap[x]? := by
  unfold kidW
  rw [Below.heap_setCell _ _ _ _ h, Below.heap_setCell _ _ _ _ h, Below.heap_setCell _ _ _ _ h, Below.heap_setCell _ _ _ _ h]
/-- An element that has ended is put behind the kids of the one around it. -/
theorem bd_kid {d : OpX} {st : List OpX} {r : Option Tr} {t : Tr} {z : NdV} (h : BdAt w0 w ρ b ⟨d :: st, r⟩ ao cap V rx) (hz : NdIn atTy ndTy w (fun g => ρ g = 1) z t) {y : ElV} {g : Nat} (hy : V[st.length]? = some y) (hao : ao = some ⟨g, 0, none⟩) {gb : Nat} {cs : Array Value} {T : TypeId}
    (hob : own w gb cs T) (hc : cs.toList = ndCs nd0) (hl : d.ks.length ≤ 1000000) :
    ∃ gk c' w5, (Builtin.append_ #[28, 28] 28 #[.slice y.x.k y.x.km y.x.kc, .slice (some ⟨gb, 0, none⟩) 1 1]).run Tryz.prog w = .ok (.slice (some ⟨gk, 0, none⟩) (d.ks.length + 1) c') w5 ∧ (∀ j u, (ndCs nd0)[j]? = some u → w5.cell? ⟨gk, d.ks.length * 4 + j, none⟩ = some u) ∧ (∀ j, w5.frozen? ⟨gk, j, none⟩ = false) ∧ gk ≠ g ∧
      w5.cell? ⟨g, st.length * 5 + 3, none⟩ = some (.slice y.x.k y.x.km y.x.kc) ∧ (∀ j, w5.frozen? ⟨g, j, none⟩ = false) ∧ (∀ x, ρ x = 0 → x < w.heap.size → w5.heap[x]? = w.heap[x]?) ∧ y.x.km = d.ks.length ∧
      BdHas w0 ((kidW w5 gk d.ks.length z).setCell ⟨g, st.length * 5 + 3, none⟩ (.slice (some ⟨gk, 0, none⟩) (d.ks.length + 1) c')) b ⟨{ d with ks := d.ks ++ [t] } :: st, r⟩ := by
  obtain ⟨y', g', hy', hl2, hE, hao', hg, hρ, hcs, hfz⟩ := bdAt_last h
  rw [hy] at hy'; cases hy'
  rw [hao] at hao'; cases hao'
  obtain ⟨K, hK, hKl, hKi⟩ := hE.hk
  have hkm : y.x.km = d.ks.length := by
    obtain ⟨_, _, q, _⟩ := hK.slice
    simp only [Value.slice.injEq] at q
    rw [q.2.1]; exact hKl
  obtain ⟨a, c', w5, ee, hro, hgr, hat⟩ := run_app ndTy_ok w 28 _ _ K [nd0] hK (rAt_box ndTy_ok hob hc) (by simp; omega)
  simp only [List.length_singleton, hKl] at ee hro hat
  obtain ⟨gk, rfl, hgk1, hgk2, hgk3⟩ := hro.at ndTy_ok (by simp)
  have hcg := Chg.of_grown hgr
  have hzz := hcg.size
  have hout := bdAt_out h
  have hk : ∀ g, ρ g ≠ 0 → ρ g ≠ 4 + 2 * st.length → w5.heap[g]? = w.heap[g]? := fun g h0 h3 => hcg.block g (h.new g h0).2 (fun q => h3 (hE.hfk g q))
  have hat2 : ∀ g, (Value.slice (some ⟨gk, 0, none⟩) (d.ks.length + 1) c').ownBlock = some g → ρ g = 4 + 2 * st.length ∨ g = w.heap.size := fun g hg2 => by
    rcases hat with q | q
    · rw [q] at hg2; exact .inl (hE.hfk g hg2)
    · rw [q] at hg2; cases hg2; exact .inr rfl
  let ρ' : Nat → Nat := fun g => if (Value.slice (some ⟨gk, 0, none⟩) (d.ks.length + 1) c').ownBlock = some g then 4 + 2 * st.length else ρ g
  have hrs : ∀ g, ρ g ≠ 0 → ρ g ≠ 4 + 2 * st.length → ρ' g = ρ g := fun g h0 h3 => by
    show (if _ then _ else _) = _
    rw [if_neg (fun q => by
      rcases hat2 g q with k | k
      · exact h3 k
      · exact h0 (hout g (by omega)))]
  have hkeep : ∀ x, ρ x ≠ 0 → ρ x ≠ 4 + 2 * st.length → ρ x ≠ 3 → ((kidW w5 gk d.ks.length z).setCell ⟨g, st.length * 5 + 3, none⟩ (.slice (some ⟨gk, 0, none⟩) (d.ks.length + 1) c')).heap[x]? = w.heap[x]? := fun x h0 h3 h2 => by
    rw [Below.heap_setCell _ _ _ _ (fun q => h2 (by rw [show x = g from q]; exact hρ)), kidW_other _ _ _ _ (fun q => by
      rcases hat2 x (by rw [q]; rfl) with k | k
      · exact h3 k
      · exact h0 (hout x (by omega)))]
    exact hk x h0 h3
  have hne : ∀ x, (Value.slice (some ⟨gk, 0, none⟩) (d.ks.length + 1) c').ownBlock = some x → x ≠ g := fun x hx q => by
    subst q
    rcases hat2 x hx with k | k
    · omega
    · omega
  have hgk : w5.heap[g]? = w.heap[g]? := hk g (by omega) (by omega)
  have hgg : gk ≠ g := hne gk rfl
  have hgk6 : (kidW w5 gk d.ks.length z).heap[g]? = w.heap[g]? := by rw [kidW_other _ _ _ _ (fun q => hgg q.symm)]; exact hgk
  have hro6 : ROwn ndTy (kidW w5 gk d.ks.length z) (.slice (some ⟨gk, 0, none⟩) (d.ks.length + 1) c') (K ++ [z]) := by rw [← hKl]; exact kid_put (by rw [hKl]; exact hro)
  have opn5 : ROwn elTy (kidW w5 gk d.ks.length z) (.slice (some ⟨g, 0, none⟩) V.length cap) V := (hao ▸ h.opn).same (fun x hx => by cases hx; exact hgk6)
  have hput : ROwn elTy ((kidW w5 gk d.ks.length z).setCell ⟨g, st.length * 5 + 3, none⟩ (.slice (some ⟨gk, 0, none⟩) (d.ks.length + 1) c')) (.slice (some ⟨g, 0, none⟩) V.length cap) (V.set st.length { y with x := { y.x with k := some ⟨gk, 0, none⟩, km := d.ks.length + 1, kc := c' } }) :=
    opn5.put elTy_ok (k := st.length) (j := 3) hy (by decide) rfl
  have hcell := hcs 3 _ rfl
  have s1 : ∀ x, ρ x = 1 → ((kidW w5 gk d.ks.length z).setCell ⟨g, st.length * 5 + 3, none⟩ (.slice (some ⟨gk, 0, none⟩) (d.ks.length + 1) c')).heap[x]? = w.heap[x]? := fun x hx => hkeep x (by omega) (by omega) (by omega)
  have s2 : ∀ x, ρ x = 1 → ρ' x = 1 := fun x hx => by rw [hrs x (by omega) (by omega)]; exact hx
  have hzz' : w.heap.size ≤ ((kidW w5 gk d.ks.length z).setCell ⟨g, st.length * 5 + 3, none⟩ (.slice (some ⟨gk, 0, none⟩) (d.ks.length + 1) c')).heap.size := by rw [setCell_size, kidW_size]; exact hzz
  refine ⟨gk, c', w5, ee, fun j u hj => ?_, hgk3, hgg, ?_, ?_, fun x h0 hx => ?_, hkm, ρ', ao, cap, V.set st.length { y with x := { y.x with k := some ⟨gk, 0, none⟩, km := d.ks.length + 1, kc := c' } }, rx, ?_, ?_, ?_, ?_, ?_, ?_, ?_, ?_, ?_⟩
  · have := hgk2 K.length nd0 (by simp) j u hj
    rw [hKl] at this; exact this
  · unfold World.cell? at hcell ⊢; rw [hgk]; exact hcell
  · intro j
    have := hfz j
    unfold World.frozen? at this ⊢; rw [hgk]; exact this
  · exact hcg.block x hx (fun q => by rw [hE.hfk x q] at h0; omega)
  · rw [List.length_set]
    exact h.blk.same (hkeep b (by rw [h.rb]; decide) (by rw [h.rb]; omega) (by rw [h.rb]; decide))
  · rw [List.length_set, hao]; exact hput
  · rw [List.length_set]; simpa using h.len
  · intro i z2 u hz2 hu
    rcases set_other hz2 with ⟨hi, hz3⟩ | ⟨hi, rfl⟩
    · have hu2 : (⟨d :: st, r⟩ : BdX).op.reverse[i]? = some u := by rw [← hu]; exact rev_cons_get hi
      have hil : i < st.length := by
        have := (List.getElem?_eq_some_iff.1 hz3).1
        omega
      exact elIs_to (h.els i z2 u hz3 hu2) (fun x hx => ⟨hkeep x (by omega) (by omega) (by omega), hrs x (by omega) (by omega)⟩) hzz'
    · subst hi
      have : u = { d with ks := d.ks ++ [t] } := by simp at hu; exact hu.symm
      subst this
      refine ⟨hE.hn, hE.ht, rAt_same2 hE.ha (fun hn x hx _ => s1 x (hE.hfa hn x hx)) hzz', fun hn x hx => s2 x (hE.hfa hn x hx),
        ⟨K ++ [z], hro6.same (fun x hx => by rw [Below.heap_setCell _ _ _ _ (hne x hx)]), by simp [hKl], fun j z2 u hz1 hu1 => ?_⟩, fun x hx => if_pos hx,
        hE.hw.same (fun x hx => hkeep x (by rw [hE.hfw x hx]; omega) (by rw [hE.hfw x hx]; omega) (by rw [hE.hfw x hx]; omega)), fun x hx => by rw [hrs x (by rw [hE.hfw x hx]; omega) (by rw [hE.hfw x hx]; omega)]; exact hE.hfw x hx⟩
      by_cases hj : j < K.length
      · rw [List.getElem?_append_left hj] at hz1
        rw [List.getElem?_append_left (by rw [← hKl]; exact hj)] at hu1
        exact ndIn_same (hKi j z2 u hz1 hu1) (fun x hx _ => s1 x hx) s2 hzz'
      · have hj2 : j = K.length := by
          have := (List.getElem?_eq_some_iff.1 hz1).1
          simp at this; omega
        subst hj2
        simp at hz1
        rw [hKl] at hu1
        simp at hu1
        subst hz1 hu1
        exact ndIn_same hz (fun x hx _ => s1 x hx) s2 hzz'
  · intro u hu
    exact ndIn_same (h.root u hu) (fun x hx _ => s1 x hx) s2 hzz'
  · rw [hrs b (by rw [h.rb]; decide) (by rw [h.rb]; omega)]; exact h.rb
  · intro x hx
    rw [List.length_set] at hx
    have := h.ro x hx
    rw [hrs x (by omega) (by omega)]; exact this
  · intro x hx
    rw [setCell_size, kidW_size]
    by_cases q : (Value.slice (some ⟨gk, 0, none⟩) (d.ks.length + 1) c').ownBlock = some x
    · have := hro.lt x q
      refine ⟨?_, by omega⟩
      rcases hat2 x q with k | k
      · exact (h.new x (by omega)).1
      · have := h.below.size; omega
    · have e1 : ρ' x = ρ x := if_neg q
      rw [e1] at hx
      have := h.new x hx
      omega
  · have hgn : w0.heap.size ≤ gk := by
      rcases hat2 gk rfl with k | k
      · exact (h.new gk (by omega)).1
      · have := h.below.size; omega
    unfold kidW
    exact (((((h.below.grown hgr h.below.size (fun x q => (h.new x (by rw [hE.hfk x q]; omega)).1)).setCell hgn _).setCell hgn _).setCell hgn _).setCell hgn _).setCell (h.new g (by omega)).1 _
end
end Go.Proofs.YthbliboahnjahaaGreatDoor
