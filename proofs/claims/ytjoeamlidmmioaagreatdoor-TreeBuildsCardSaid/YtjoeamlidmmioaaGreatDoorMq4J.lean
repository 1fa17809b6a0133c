import Derived.Test.YtjoeamlidmmioaaGreatDoorMq3J
import Derived.Test.YtjoeamlidmmioaaGreatDoorMq1J
import Derived.Lib.FieldsP
import Derived.Test.YtjoeamlidmmioaaGreatDoorProg
import Derived.Test.YtjoeamlidmmioaaGreatDoorMq0J
import Derived.Shelf.Strings.FieldsFuncGrows
import Derived.Shelf.Strings.OnBuilder
import Derived.Shelf.Strings.SlTrimAscii
import Derived.Shelf.Strings.Runes
/-
  LAYER 12 (tree): what turns the builder: words said, an element shut, the root laid, a kid put behind.
-/
namespace Go.Proofs.YtjoeamlidmmioaaGreatDoor
open Go.RowKit
set_option linter.unusedVariables false
set_option maxRecDepth 100000
section
variable {w0 w w' : World} {ρ : Nat → Nat} {b : Nat} {s : BdX} {ao : Option Addr} {cap : Nat} {V : List ElV} {rx : NdV}
theorem bdAt_out (h : BdAt w0 w ρ b s ao cap V rx) : ∀ g, w.heap.size ≤ g → ρ g = 0 := fun g hg2 => by
  by_cases h0 : ρ g = 0
  · exact h0
  · have := (h.new g h0).2; omega
/-- The innermost open element: its place, its cells. -/
theorem bdAt_last {e : OpX} {st : List OpX} {r : Option Tr} (h : BdAt w0 w ρ b ⟨e :: st, r⟩ ao cap V rx) : ∃ y g, V[st.length]? = some y ∧ V.length = st.length + 1 ∧ ElIs w ρ st.length y e ∧ ao = some ⟨g, 0, none⟩ ∧ g < w.heap.size ∧ ρ g = 3 ∧
    (∀ j u, (elCs y)[j]? = some u → w.cell? ⟨g, st.length * 5 + j, none⟩ = some u) ∧ (∀ j, w.frozen? ⟨g, j, none⟩ = false) := by
  have hl : V.length = st.length + 1 := by rw [h.len]; simp
  obtain ⟨y, hy⟩ : ∃ y, V[st.length]? = some y := ⟨_, List.getElem?_eq_getElem (by omega)⟩
  have he : (⟨e :: st, r⟩ : BdX).op.reverse[st.length]? = some e := by simp
  obtain ⟨g, rfl, hg, hc, hf⟩ := h.opn.at elTy_ok (by omega)
  exact ⟨y, g, hy, hl, h.els _ _ _ hy he, rfl, hg, h.ro g rfl, fun j u hj => hc _ _ hy j u hj, hf⟩
/-- A row's things but one are what they were. -/
theorem set_other {α : Type} {L : List α} {k i : Nat} {x y : α} (h : (L.set k x)[i]? = some y) : (i ≠ k ∧ L[i]? = some y) ∨ (i = k ∧ y = x) := by
  by_cases hi : k = i
  · subst hi
    have hl := (List.getElem?_eq_some_iff.1 h).1
    rw [List.getElem?_set_self (by simpa using hl)] at h
    cases h
    exact .inr ⟨rfl, rfl⟩
  · rw [List.getElem?_set_ne hi] at h
    exact .inl ⟨fun q => hi q.symm, h⟩
theorem rev_cons_get {e d : OpX} {st : List OpX} {i : Nat} (hi : i ≠ st.length) : (e :: st).reverse[i]? = (d :: st).reverse[i]? := by
  rw [List.reverse_cons, List.reverse_cons]
  by_cases h : i < st.length
  · rw [List.getElem?_append_left (by simpa using h), List.getElem?_append_left (by simpa using h)]
  · rw [List.getElem?_eq_none (by simp; omega), List.getElem?_eq_none (by simp; omega)]
/-- Words are put behind those of the innermost element: their box has been laid. -/
theorem bd_say {e : OpX} {st : List OpX} {r : Option Tr} (h : BdAt w0 w ρ b ⟨e :: st, r⟩ ao cap V rx) (t : List UInt8) {y : ElV} {g : Nat} (hy : V[st.length]? = some y) (hao : ao = some ⟨g, 0, none⟩) {gb : Nat} {cs : Array Value} {T : TypeId}
    (hob : own w gb cs T) (hc : cs.toList = [.string (mk t)]) (hl : e.ws.length ≤ 1000000) :
    ∃ a c' w5, (Builtin.append_ #[61, 61] 61 #[.slice y.w y.wm y.wc, .slice (some ⟨gb, 0, none⟩) 1 1]).run Tryz.prog w = .ok (.slice a (e.ws.length + 1) c') w5 ∧ w5.cell? ⟨g, st.length * 5 + 4, none⟩ = some (.slice y.w y.wm y.wc) ∧ w5.frozen? ⟨g, st.length * 5 + 4, none⟩ = false ∧ w5.cell? ⟨b, 0, none⟩ = some (.slice ao V.length cap) ∧
      BdHas w0 (w5.setCell ⟨g, st.length * 5 + 4, none⟩ (.slice a (e.ws.length + 1) c')) b ⟨{ e with ws := e.ws ++ [t] } :: st, r⟩ := by
  obtain ⟨y', g', hy', hl2, hE, hao', hg, hρ, hcs, hfz⟩ := bdAt_last h
  rw [hy] at hy'; cases hy'
  rw [hao] at hao'; cases hao'
  have hEw := hE.hw
  have hwl : y.wm = e.ws.length := by
    obtain ⟨_, _, q, _⟩ := hEw.slice
    simp only [Value.slice.injEq, List.length_map] at q
    exact q.2.1
  obtain ⟨a, c', w5, ee, hro, hgr, hat⟩ := run_app strTy_ok w 61 _ _ (e.ws.map mk) [mk t] hEw (rAt_box strTy_ok hob hc) (by simp; omega)
  simp only [List.length_singleton, List.length_map] at ee hro hat
  have hcg := Chg.of_grown hgr
  have hz := hcg.size
  have hout := bdAt_out h
  have hk : ∀ g, ρ g ≠ 0 → ρ g ≠ 5 + 2 * st.length → w5.heap[g]? = w.heap[g]? := fun g h0 h3 => hcg.block g (h.new g h0).2 (fun q => h3 (hE.hfw g q))
  have hat2 : ∀ g, (Value.slice a (e.ws.length + 1) c').ownBlock = some g → ρ g = 5 + 2 * st.length ∨ g = w.heap.size := fun g hg2 => by
    rcases hat with q | q
    · rw [q] at hg2; exact .inl (hE.hfw g hg2)
    · rw [q] at hg2; cases hg2; exact .inr rfl
  let ρ' : Nat → Nat := fun g => if (Value.slice a (e.ws.length + 1) c').ownBlock = some g then 5 + 2 * st.length else ρ g
  have hrs : ∀ g, ρ g ≠ 0 → ρ g ≠ 5 + 2 * st.length → ρ' g = ρ g := fun g h0 h3 => by
    show (if _ then _ else _) = _
    rw [if_neg (fun q => by
      rcases hat2 g q with k | k
      · exact h3 k
      · exact h0 (hout g (by omega)))]
  have hkeep : ∀ x, ρ x ≠ 0 → ρ x ≠ 5 + 2 * st.length → ρ x ≠ 3 → (w5.setCell ⟨g, st.length * 5 + 4, none⟩ (.slice a (e.ws.length + 1) c')).heap[x]? = w.heap[x]? := fun x h0 h3 h2 => by
    rw [Below.heap_setCell _ _ _ _ (fun q => h2 (by rw [show x = g from q]; exact hρ))]
    exact hk x h0 h3
  have hne : ∀ x, (Value.slice a (e.ws.length + 1) c').ownBlock = some x → x ≠ g := fun x hx q => by
    subst q
    rcases hat2 x hx with k | k
    · omega
    · omega
  have hgk : w5.heap[g]? = w.heap[g]? := hk g (by omega) (by omega)
  have opn5 : ROwn elTy w5 (.slice (some ⟨g, 0, none⟩) V.length cap) V := (hao ▸ h.opn).same (fun x hx => by cases hx; exact hgk)
  have hput : ROwn elTy (w5.setCell ⟨g, st.length * 5 + 4, none⟩ (.slice a (e.ws.length + 1) c')) (.slice (some ⟨g, 0, none⟩) V.length cap) (V.set st.length { y with w := a, wm := e.ws.length + 1, wc := c' }) :=
    opn5.put elTy_ok (k := st.length) (j := 4) hy (by decide) rfl
  have hcell := hcs 4 _ rfl
  refine ⟨a, c', w5, ee, ?_, ?_, by rw [(h.blk.same (hk b (by rw [h.rb]; decide) (by rw [h.rb]; omega))).cell]; rfl, ρ', ao, cap, V.set st.length { y with w := a, wm := e.ws.length + 1, wc := c' }, rx, ?_, ?_, ?_, ?_, ?_, ?_, ?_, ?_, ?_⟩
  · unfold World.cell? at hcell ⊢; rw [hgk]; exact hcell
  · have := hfz (st.length * 5 + 4)
    unfold World.frozen? at this ⊢; rw [hgk]; exact this
  · rw [List.length_set]
    exact h.blk.same (hkeep b (by rw [h.rb]; decide) (by rw [h.rb]; omega) (by rw [h.rb]; decide))
  · rw [List.length_set, hao]; exact hput
  · rw [List.length_set]; simpa using h.len
  · intro i z u hz2 hu
    rcases set_other hz2 with ⟨hi, hz3⟩ | ⟨hi, rfl⟩
    · have hu2 : (⟨e :: st, r⟩ : BdX).op.reverse[i]? = some u := by rw [← hu]; exact rev_cons_get hi
      have hil : i < st.length := by
        have := (List.getElem?_eq_some_iff.1 hz3).1
        omega
      exact elIs_to (h.els i z u hz3 hu2) (fun x hx => ⟨hkeep x (by omega) (by omega) (by omega), hrs x (by omega) (by omega)⟩) (by rw [setCell_size]; exact hz)
    · subst hi
      have : u = { e with ws := e.ws ++ [t] } := by simp at hu; exact hu.symm
      subst this
      obtain ⟨K, k1, k2, k3⟩ := hE.hk
      have s1 : ∀ x, ρ x = 1 → (w5.setCell ⟨g, st.length * 5 + 4, none⟩ (.slice a (e.ws.length + 1) c')).heap[x]? = w.heap[x]? := fun x hx => hkeep x (by omega) (by omega) (by omega)
      refine ⟨hE.hn, hE.ht, rAt_same2 hE.ha (fun hn x hx _ => s1 x (hE.hfa hn x hx)) (by rw [setCell_size]; exact hz), fun hn x hx => by rw [hrs x (by rw [hE.hfa hn x hx]; decide) (by rw [hE.hfa hn x hx]; omega)]; exact hE.hfa hn x hx,
        ⟨K, k1.same (fun x hx => hkeep x (by rw [hE.hfk x hx]; omega) (by rw [hE.hfk x hx]; omega) (by rw [hE.hfk x hx]; omega)), k2, fun j z u hz1 hu1 => ndIn_same (k3 j z u hz1 hu1) (fun x hx _ => s1 x hx) (fun x hx => by rw [hrs x (by omega) (by omega)]; exact hx) (by rw [setCell_size]; exact hz)⟩,
        fun x hx => by rw [hrs x (by rw [hE.hfk x hx]; omega) (by rw [hE.hfk x hx]; omega)]; exact hE.hfk x hx, ?_, fun x hx => if_pos hx⟩
      show ROwn strTy _ _ ((e.ws ++ [t]).map mk)
      rw [List.map_append]
      exact hro.same (fun x hx => by rw [Below.heap_setCell _ _ _ _ (hne x hx)])
  · intro u hu
    exact ndIn_same (h.root u hu) (fun x hx _ => hkeep x (by omega) (by omega) (by omega)) (fun x hx => by rw [hrs x (by omega) (by omega)]; exact hx) (by rw [setCell_size]; exact hz)
  · rw [hrs b (by rw [h.rb]; decide) (by rw [h.rb]; omega)]; exact h.rb
  · intro x hx
    rw [List.length_set] at hx
    have := h.ro x hx
    rw [hrs x (by omega) (by omega)]; exact this
  · intro x hx
    rw [setCell_size]
    by_cases q : (Value.slice a (e.ws.length + 1) c').ownBlock = some x
    · have := hro.lt x q
      refine ⟨?_, by omega⟩
      rcases hat2 x q with k | k
      · exact (h.new x (by omega)).1
      · have := h.below.size; omega
    · have e1 : ρ' x = ρ x := if_neg q
      rw [e1] at hx
      have := h.new x hx
      omega
  · exact (h.below.grown hgr h.below.size (fun x q => (h.new x (by rw [hE.hfw x q]; omega)).1)).setCell (h.new g (by omega)).1 _
theorem ownB_len {ao : Option Addr} {n m c d : Nat} {x : Nat} (h : (Value.slice ao n c).ownBlock = some x) : (Value.slice ao m d).ownBlock = some x := by
  cases ao with
  | none => simp [Value.ownBlock] at h
  | some q => simpa [Value.ownBlock] using h
/-- The innermost element is taken off the row. -/
theorem bd_cut {e : OpX} {st : List OpX} {r : Option Tr} (h : BdAt w0 w ρ b ⟨e :: st, r⟩ ao cap V rx) {y : ElV} (hy : V[st.length]? = some y) :
    ∃ ρ' : Nat → Nat, (∀ x, ρ x = 0 → ρ' x = 0) ∧ BdAt w0 (w.setCell ⟨b, 0, none⟩ (.slice ao st.length cap)) ρ' b ⟨st, r⟩ ao cap (V.take st.length) rx ∧ NdIn atTy ndTy (w.setCell ⟨b, 0, none⟩ (.slice ao st.length cap)) (fun g => ρ' g = 1) { y.x with t := e.ws.flatten } (shutX e) := by
  obtain ⟨y', g', hy', hl2, hE, hao', hg, hρ, hcs, hfz⟩ := bdAt_last h
  rw [hy] at hy'; cases hy'
  have hkeep : ∀ x, ρ x ≠ 2 → (w.setCell ⟨b, 0, none⟩ (.slice ao st.length cap)).heap[x]? = w.heap[x]? := fun x hx => Below.heap_setCell _ _ _ _ (fun q => hx (by rw [show x = b from q]; exact h.rb))
  let ρ' : Nat → Nat := fun g => if ρ g = 4 + 2 * st.length ∨ ρ g = 5 + 2 * st.length then 1 else ρ g
  have hrs : ∀ g, ρ g ≠ 4 + 2 * st.length → ρ g ≠ 5 + 2 * st.length → ρ' g = ρ g := fun g h1 h2 => if_neg (by omega)
  have hr1 : ∀ g, ρ g = 1 → ρ' g = 1 := fun g h1 => by rw [hrs g (by omega) (by omega)]; exact h1
  have htl : (V.take st.length).length = st.length := by rw [List.length_take]; omega
  refine ⟨ρ', fun x hx => by rw [hrs x (by omega) (by omega)]; exact hx, ⟨?_, ?_, htl, ?_, ?_, ?_, ?_, ?_, ?_⟩, ?_⟩
  · rw [htl]
    have := h.blk.set 0 (.slice ao st.length cap); simpa [bdCs] using this
  · rw [htl]
    exact (h.opn.cut elTy_ok (by omega)).same (fun x hx => hkeep x (by
      have : (Value.slice ao V.length cap).ownBlock = some x := ownB_len hx
      rw [h.ro x this]; decide))
  · intro i z u hz hu
    have hil : i < st.length := by
      have := (List.getElem?_eq_some_iff.1 hz).1
      omega
    rw [List.getElem?_take_of_lt hil] at hz
    have hu2 : (⟨e :: st, r⟩ : BdX).op.reverse[i]? = some u := by
      rw [← hu]
      show (e :: st).reverse[i]? = st.reverse[i]?
      rw [List.reverse_cons, List.getElem?_append_left (by simpa using hil)]
    exact elIs_to (h.els i z u hz hu2) (fun x hx => ⟨hkeep x (by omega), hrs x (by omega) (by omega)⟩) (by rw [setCell_size]; exact Nat.le_refl _)
  · intro u hu
    exact ndIn_same (h.root u hu) (fun x hx _ => hkeep x (by omega)) hr1 (by rw [setCell_size]; exact Nat.le_refl _)
  · rw [hrs b (by rw [h.rb]; omega) (by rw [h.rb]; omega)]; exact h.rb
  · intro x hx
    have : (Value.slice ao V.length cap).ownBlock = some x := ownB_len hx
    have := h.ro x this
    rw [hrs x (by omega) (by omega)]; exact this
  · intro x hx
    rw [setCell_size]
    refine h.new x (fun q => hx ?_)
    rw [hrs x (by omega) (by omega)]; exact q
  · exact h.below.setCell (h.new b (by rw [h.rb]; decide)).1 _
  · obtain ⟨K, k1, k2, k3⟩ := hE.hk
    refine .at _ _ K hE.hn rfl (rAt_same2 hE.ha (fun hn x hx _ => hkeep x (by rw [hE.hfa hn x hx]; decide)) (by rw [setCell_size]; exact Nat.le_refl _)) (fun hn x hx => hr1 x (hE.hfa hn x hx)) (k1.rAt.same (fun x hx _ => hkeep x (by rw [hE.hfk x hx]; omega)) (by rw [setCell_size]; exact Nat.le_refl _)) (fun _ x hx => if_pos (.inl (hE.hfk x hx))) k2 (fun i z u hz hu => ?_)
    exact ndIn_same (k3 i z u hz hu) (fun x hx _ => hkeep x (by omega)) hr1 (by rw [setCell_size]; exact Nat.le_refl _)
/-- The first element has ended: it is laid in the builder. -/
def rootW (w : World) (b : Nat) (z : NdV) : World := ((((w.setCell ⟨b, 1, none⟩ (.string (mk z.n))).setCell ⟨b, 2, none⟩ (.slice z.a z.am z.ac)).setCell ⟨b, 3, none⟩ (.string (mk z.t))).setCell ⟨b, 4, none⟩ (.slice z.k z.km z.kc)).setCell ⟨b, 5, none⟩ (.bool true)
theorem bd_root {r : Option Tr} {t : Tr} {z : NdV} (h : BdAt w0 w ρ b ⟨[], r⟩ ao cap V rx) (hz : NdIn atTy ndTy w (fun g => ρ g = 1) z t) : BdHas w0 (rootW w b z) b ⟨[], some t⟩ := by
  have hzs : (rootW w b z).heap.size = w.heap.size := by unfold rootW; simp only [setCell_size]
  have hkeep : ∀ x, ρ x ≠ 2 → (rootW w b z).heap[x]? = w.heap[x]? := fun x hx => by
    have hn : x ≠ b := fun q => hx (by rw [q]; exact h.rb)
    unfold rootW
    rw [Below.heap_setCell _ _ _ _ hn, Below.heap_setCell _ _ _ _ hn, Below.heap_setCell _ _ _ _ hn, Below.heap_setCell _ _ _ _ hn, Below.heap_setCell _ _ _ _ hn]
  have hV : V = [] := List.length_eq_zero_iff.1 (by rw [h.len]; rfl)
  subst hV
  have hbn := (h.new b (by rw [h.rb]; decide)).1
  refine ⟨ρ, ao, cap, [], z, ?_, h.opn.same (fun x hx => hkeep x (by rw [h.ro x hx]; decide)), rfl, fun i y e hy => by simp at hy, fun u hu => ?_, h.rb, h.ro, fun x hx => by rw [hzs]; exact h.new x hx, ?_⟩
  · have := ((((h.blk.set 1 (.string (mk z.n))).set 2 (.slice z.a z.am z.ac)).set 3 (.string (mk z.t))).set 4 (.slice z.k z.km z.kc)).set 5 (.bool true)
    simpa [bdCs, rootW] using this
  · cases hu
    exact ndIn_same hz (fun x hx _ => hkeep x (by omega)) (fun x hx => hx) (by rw [hzs]; exact Nat.le_refl _)
  · unfold rootW
    exact ((((h.below.setCell hbn _).setCell hbn _).setCell hbn _).setCell hbn _).setCell hbn _
/-- Four cells of a row of elements turned. -/
def kidW (w : World) (g n : Nat) (z : NdV) : World := (((w.setCell ⟨g, n * 4, none⟩ (.string (mk z.n))).setCell ⟨g, n * 4 + 1, none⟩ (.slice z.a z.am z.ac)).setCell ⟨g, n * 4 + 2, none⟩ (.string (mk z.t))).setCell ⟨g, n * 4 + 3, none⟩ (.slice z.k z.km z.kc)
theorem set_last {α : Type} (K : List α) (a b : α) : (K ++ [a]).set K.length b = K ++ [b] := by simp
theorem kid_put {w : World} {g n c : Nat} {K : List NdV} {x z : NdV} (h : ROwn ndTy w (.slice (some ⟨g, 0, none⟩) n c) (K ++ [x])) : ROwn ndTy (kidW w g K.length z) (.slice (some ⟨g, 0, none⟩) n c) (K ++ [z]) := by
  have e : ∀ a : NdV, (K ++ [a])[K.length]? = some a := fun a => by simp
  have h1 := h.put ndTy_ok (k := K.length) (j := 0) (x' := { x with n := z.n }) (u := .string (mk z.n)) (e x) (by decide) rfl
  rw [set_last] at h1
  have h2 := h1.put ndTy_ok (k := K.length) (j := 1) (x' := { x with n := z.n, a := z.a, am := z.am, ac := z.ac }) (u := .slice z.a z.am z.ac) (e _) (by decide) rfl
  rw [set_last] at h2
  have h3 := h2.put ndTy_ok (k := K.length) (j := 2) (x' := { x with n := z.n, a := z.a, am := z.am, ac := z.ac, t := z.t }) (u := .string (mk z.t)) (e _) (by decide) rfl
  rw [set_last] at h3
  have h4 := h3.put ndTy_ok (k := K.length) (j := 3) (x' := z) (u := .slice z.k z.km z.kc) (e _) (by decide) rfl
  rw [set_last] at h4
  exact h4
theorem kidW_size (w : World) (g n : Nat) (z : NdV) : (kidW w g n z).heap.size = w.heap.size := by unfold kidW; simp only [setCell_size]
theorem kidW_other (w : World) (g n : Nat) (z : NdV) {x : Nat} (h : x ≠ g) : (kidW w g n z).heap[x]? = w.heap[x]? := by
  unfold kidW
  rw [Below.heap_setCell _ _ _ _ h, Below.heap_setCell _ _ _ _ h, Below.heap_setCell _ _ _ _ h, Below.heap_setCell _ _ _ _ h]
/-- An element that has ended is put behind the kids of the one around it. -/
theorem bd_kid {d : OpX} {st : List OpX} {r : Option Tr} {t : Tr} {z : NdV} (h : BdAt w0 w ρ b ⟨d :: st, r⟩ ao cap V rx) (hz : NdIn atTy ndTy w (fun g => ρ g = 1) z t) {y : ElV} {g : Nat} (hy : V[st.length]? = some y) (hao : ao = some ⟨g, 0, none⟩) {gb : Nat} {cs : Array Value} {T : TypeId}
    (hob : own w gb cs T) (hc : cs.toList = ndCs nd0) (hl : d.ks.length ≤ 1000000) :
    ∃ gk c' w5, (Builtin.append_ #[28, 28] 28 #[.slice y.x.k y.x.km y.x.kc, .slice (some ⟨gb, 0, none⟩) 1 1]).run Tryz.prog w = .ok (.slice (some ⟨gk, 0, none⟩) (d.ks.length + 1) c') w5 ∧ (∀ j u, (ndCs nd0)[j]? = some u → w5.cell? ⟨gk, d.ks.length * 4 + j, none⟩ = some u) ∧ (∀ j, w5.frozen? ⟨gk, j, none⟩ = false) ∧ gk ≠ g ∧
      w5.cell? ⟨g, st.length * 5 + 3, none⟩ = some (.slice y.x.k y.x.km y.x.kc) ∧ (∀ j, w5.frozen? ⟨g, j, none⟩ = false) ∧ (∀ x, ρ x = 0 → x < w.heap.size → w5.heap[x]? = w.heap[x]?) ∧ y.x.km = d.ks.length ∧
      BdHas w0 ((kidW w5 gk d.ks.length z).setCell ⟨g, st.length * 5 + 3, none⟩ (.slice (some ⟨gk, 0, none⟩) (d.ks.length + 1) c')) b ⟨{ d with ks := d.ks ++ [t] } :: st, r⟩ := by
  obtain ⟨y', g', hy', hl2, hE, hao', hg, hρ, hcs, hfz⟩ := bdAt_last h
  rw [hy] at hy'; cases hy'
  rw [hao] at hao'; cases hao'
  obtain ⟨K, hK, hKl, hKi⟩ := hE.hk
  have hkm : y.x.km = d.ks.length := by
    obtain ⟨_, _, q, _⟩ := hK.slice
    simp only [Value.slice.injEq] at q
    rw [q.2.1]; exact hKl
  obtain ⟨a, c', w5, ee, hro, hgr, hat⟩ := run_app ndTy_ok w 28 _ _ K [nd0] hK (rAt_box ndTy_ok hob hc) (by simp; omega)
  simp only [List.length_singleton, hKl] at ee hro hat
  obtain ⟨gk, rfl, hgk1, hgk2, hgk3⟩ := hro.at ndTy_ok (by simp)
  have hcg := Chg.of_grown hgr
  have hzz := hcg.size
  have hout := bdAt_out h
  have hk : ∀ g, ρ g ≠ 0 → ρ g ≠ 4 + 2 * st.length → w5.heap[g]? = w.heap[g]? := fun g h0 h3 => hcg.block g (h.new g h0).2 (fun q => h3 (hE.hfk g q))
  have hat2 : ∀ g, (Value.slice (some ⟨gk, 0, none⟩) (d.ks.length + 1) c').ownBlock = some g → ρ g = 4 + 2 * st.length ∨ g = w.heap.size := fun g hg2 => by
    rcases hat with q | q
    · rw [q] at hg2; exact .inl (hE.hfk g hg2)
    · rw [q] at hg2; cases hg2; exact .inr rfl
  let ρ' : Nat → Nat := fun g => if (Value.slice (some ⟨gk, 0, none⟩) (d.ks.length + 1) c').ownBlock = some g then 4 + 2 * st.length else ρ g
  have hrs : ∀ g, ρ g ≠ 0 → ρ g ≠ 4 + 2 * st.length → ρ' g = ρ g := fun g h0 h3 => by
    show (if _ then _ else _) = _
    rw [if_neg (fun q => by
      rcases hat2 g q with k | k
      · exact h3 k
      · exact h0 (hout g (by omega)))]
  have hkeep : ∀ x, ρ x ≠ 0 → ρ x ≠ 4 + 2 * st.length → ρ x ≠ 3 → ((kidW w5 gk d.ks.length z).setCell ⟨g, st.length * 5 + 3, none⟩ (.slice (some ⟨gk, 0, none⟩) (d.ks.length + 1) c')).heap[x]? = w.heap[x]? := fun x h0 h3 h2 => by
    rw [Below.heap_setCell _ _ _ _ (fun q => h2 (by rw [show x = g from q]; exact hρ)), kidW_other _ _ _ _ (fun q => by
      rcases hat2 x (by rw [q]; rfl) with k | k
      · exact h3 k
      · exact h0 (hout x (by omega)))]
    exact hk x h0 h3
  have hne : ∀ x, (Value.slice (some ⟨gk, 0, none⟩) (d.ks.length + 1) c').ownBlock = some x → x ≠ g := fun x hx q => by
    subst q
    rcases hat2 x hx with k | k
    · omega
    · omega
  have hgk : w5.heap[g]? = w.heap[g]? := hk g (by omega) (by omega)
  have hgg : gk ≠ g := hne gk rfl
  have hgk6 : (kidW w5 gk d.ks.length z).heap[g]? = w.heap[g]? := by rw [kidW_other _ _ _ _ (fun q => hgg q.symm)]; exact hgk
  have hro6 : ROwn ndTy (kidW w5 gk d.ks.length z) (.slice (some ⟨gk, 0, none⟩) (d.ks.length + 1) c') (K ++ [z]) := by rw [← hKl]; exact kid_put (by rw [hKl]; exact hro)
  have opn5 : ROwn elTy (kidW w5 gk d.ks.length z) (.slice (some ⟨g, 0, none⟩) V.length cap) V := (hao ▸ h.opn).same (fun x hx => by cases hx; exact hgk6)
  have hput : ROwn elTy ((kidW w5 gk d.ks.length z).setCell ⟨g, st.length * 5 + 3, none⟩ (.slice (some ⟨gk, 0, none⟩) (d.ks.length + 1) c')) (.slice (some ⟨g, 0, none⟩) V.length cap) (V.set st.length { y with x := { y.x with k := some ⟨gk, 0, none⟩, km := d.ks.length + 1, kc := c' } }) :=
    opn5.put elTy_ok (k := st.length) (j := 3) hy (by decide) rfl
  have hcell := hcs 3 _ rfl
  have s1 : ∀ x, ρ x = 1 → ((kidW w5 gk d.ks.length z).setCell ⟨g, st.length * 5 + 3, none⟩ (.slice (some ⟨gk, 0, none⟩) (d.ks.length + 1) c')).heap[x]? = w.heap[x]? := fun x hx => hkeep x (by omega) (by omega) (by omega)
  have s2 : ∀ x, ρ x = 1 → ρ' x = 1 := fun x hx => by rw [hrs x (by omega) (by omega)]; exact hx
  have hzz' : w.heap.size ≤ ((kidW w5 gk d.ks.length z).setCell ⟨g, st.length * 5 + 3, none⟩ (.slice (some ⟨gk, 0, none⟩) (d.ks.length + 1) c')).heap.size := by rw [setCell_size, kidW_size]; exact hzz
  refine ⟨gk, c', w5, ee, fun j u hj => ?_, hgk3, hgg, ?_, ?_, fun x h0 hx => ?_, hkm, ρ', ao, cap, V.set st.length { y with x := { y.x with k := some ⟨gk, 0, none⟩, km := d.ks.length + 1, kc := c' } }, rx, ?_, ?_, ?_, ?_, ?_, ?_, ?_, ?_, ?_⟩
  · have := hgk2 K.length nd0 (by simp) j u hj
    rw [hKl] at this; exact this
  · unfold World.cell? at hcell ⊢; rw [hgk]; exact hcell
  · intro j
    have := hfz j
    unfold World.frozen? at this ⊢; rw [hgk]; exact this
  · exact hcg.block x hx (fun q => by rw [hE.hfk x q] at h0; omega)
  · rw [List.length_set]
    exact h.blk.same (hkeep b (by rw [h.rb]; decide) (by rw [h.rb]; omega) (by rw [h.rb]; decide))
  · rw [List.length_set, hao]; exact hput
  · rw [List.length_set]; simpa using h.len
  · intro i z2 u hz2 hu
    rcases set_other hz2 with ⟨hi, hz3⟩ | ⟨hi, rfl⟩
    · have hu2 : (⟨d :: st, r⟩ : BdX).op.reverse[i]? = some u := by rw [← hu]; exact rev_cons_get hi
      have hil : i < st.length := by
        have := (List.getElem?_eq_some_iff.1 hz3).1
        omega
      exact elIs_to (h.els i z2 u hz3 hu2) (fun x hx => ⟨hkeep x (by omega) (by omega) (by omega), hrs x (by omega) (by omega)⟩) hzz'
    · subst hi
      have : u = { d with ks := d.ks ++ [t] } := by simp at hu; exact hu.symm
      subst this
      refine ⟨hE.hn, hE.ht, rAt_same2 hE.ha (fun hn x hx _ => s1 x (hE.hfa hn x hx)) hzz', fun hn x hx => s2 x (hE.hfa hn x hx),
        ⟨K ++ [z], hro6.same (fun x hx => by rw [Below.heap_setCell _ _ _ _ (hne x hx)]), by simp [hKl], fun j z2 u hz1 hu1 => ?_⟩, fun x hx => if_pos hx,
        hE.hw.same (fun x hx => hkeep x (by rw [hE.hfw x hx]; omega) (by rw [hE.hfw x hx]; omega) (by rw [hE.hfw x hx]; omega)), fun x hx => by rw [hrs x (by rw [hE.hfw x hx]; omega) (by rw [hE.hfw x hx]; omega)]; exact hE.hfw x hx⟩
      by_cases hj : j < K.length
      · rw [List.getElem?_append_left hj] at hz1
        rw [List.getElem?_append_left (by rw [← hKl]; exact hj)] at hu1
        exact ndIn_same (hKi j z2 u hz1 hu1) (fun x hx _ => s1 x hx) s2 hzz'
      · have hj2 : j = K.length := by
          have := (List.getElem?_eq_some_iff.1 hz1).1
          simp at this; omega
        subst hj2
        simp at hz1
        rw [hKl] at hu1
        simp at hu1
        subst hz1 hu1
        exact ndIn_same hz (fun x hx _ => s1 x hx) s2 hzz'
  · intro u hu
    exact ndIn_same (h.root u hu) (fun x hx _ => s1 x hx) s2 hzz'
  · rw [hrs b (by rw [h.rb]; decide) (by rw [h.rb]; omega)]; exact h.rb
  · intro x hx
    rw [List.length_set] at hx
    have := h.ro x hx
    rw [hrs x (by omega) (by omega)]; exact this
  · intro x hx
    rw [setCell_size, kidW_size]
    by_cases q : (Value.slice (some ⟨gk, 0, none⟩) (d.ks.length + 1) c').ownBlock = some x
    · have := hro.lt x q
      refine ⟨?_, by omega⟩
      rcases hat2 x q with k | k
      · exact (h.new x (by omega)).1
      · have := h.below.size; omega
    · have e1 : ρ' x = ρ x := if_neg q
      rw [e1] at hx
      have := h.new x hx
      omega
  · have hgn : w0.heap.size ≤ gk := by
      rcases hat2 gk rfl with k | k
      · exact (h.new gk (by omega)).1
      · have := h.below.size; omega
    unfold kidW
    exact (((((h.below.grown hgr h.below.size (fun x q => (h.new x (by rw [hE.hfk x q]; omega)).1)).setCell hgn _).setCell hgn _).setCell hgn _).setCell hgn _).setCell (h.new g (by omega)).1 _
end
end Go.Proofs.YtjoeamlidmmioaaGreatDoor

/-
  LAYER 12 (tree), plain mathematics: what is squeezed, byte by byte; and by runes, as strings.FieldsFunc does it.
-/
namespace Go.Proofs.YtjoeamlidmmioaaGreatDoor
set_option linter.unusedVariables false
set_option maxRecDepth 100000

/-- some: there is output; gap: a blank is to come before the next word. -/
def sqG : Bool → Bool → List UInt8 → List UInt8
  | _, _, [] => []
  | o, g, c :: r => if spcX c then sqG o o r else if g then 32 :: c :: sqG true false r else c :: sqG true false r
def sqX (s : List UInt8) : List UInt8 := sqG false false s
theorem sqG_space {o g : Bool} {c : UInt8} {r : List UInt8} (h : spcX c = true) : sqG o g (c :: r) = sqG o o r := by
  show (if spcX c = true then sqG o o r else _) = _
  rw [if_pos h]
theorem sqG_gap {o : Bool} {c : UInt8} {r : List UInt8} (h : spcX c = false) : sqG o true (c :: r) = 32 :: c :: sqG true false r := by
  show (if spcX c = true then _ else 32 :: c :: sqG true false r) = _
  rw [if_neg (by rw [h]; decide)]
theorem sqG_word {o : Bool} {c : UInt8} {r : List UInt8} (h : spcX c = false) : sqG o false (c :: r) = c :: sqG true false r := by
  show (if spcX c = true then _ else _) = _
  rw [if_neg (by rw [h]; decide)]; rfl
theorem sq_again1 : ∀ s, sqG true false (sqG true false s) = sqG true false s ∧ sqG true false (sqG true true s) = sqG true true s
  | [] => ⟨rfl, rfl⟩
  | c :: r => by
    obtain ⟨h1, h2⟩ := sq_again1 r
    by_cases hc : spcX c = true
    · rw [sqG_space hc, sqG_space hc]
      exact ⟨h2, h2⟩
    · have hc' : spcX c = false := by simpa using hc
      rw [sqG_word hc', sqG_gap hc', sqG_word hc', h1]
      refine ⟨rfl, ?_⟩
      rw [sqG_space (c := 32) (by decide), sqG_gap hc', h1]
theorem sq_again : ∀ s, sqX (sqX s) = sqX s
  | [] => rfl
  | c :: r => by
    unfold sqX
    by_cases hc : spcX c = true
    · rw [sqG_space hc]
      exact sq_again r
    · have hc' : spcX c = false := by simpa using hc
      rw [sqG_word hc', sqG_word hc', (sq_again1 r).1]
theorem sq_head : ∀ (s : List UInt8) (c : UInt8), (sqX s)[0]? = some c → c ≠ 32
  | [], c, h => by simp [sqX, sqG] at h
  | d :: r, c, h => by
    unfold sqX at h
    by_cases hc : spcX d = true
    · rw [sqG_space hc] at h
      exact sq_head r c h
    · have hc' : spcX d = false := by simpa using hc
      rw [sqG_word hc'] at h
      simp at h
      subst h
      rintro rfl
      exact absurd hc' (by decide)
theorem sq_last1 : ∀ (s : List UInt8) (c : UInt8) (o g : Bool), (sqG o g s).getLast? = some c → c ≠ 32
  | [], c, o, g, h => by simp [sqG] at h
  | d :: r, c, o, g, h => by
    by_cases hc : spcX d = true
    · rw [sqG_space hc] at h
      exact sq_last1 r c _ _ h
    · have hc' : spcX d = false := by simpa using hc
      have h2 : (d :: sqG true false r).getLast? = some c := by
        cases g with
        | true => rw [sqG_gap hc', List.getLast?_cons_cons] at h; exact h
        | false => rw [sqG_word hc'] at h; exact h
      cases hr : sqG true false r with
      | nil =>
        rw [hr] at h2
        simp at h2
        subst h2
        rintro rfl
        exact absurd hc' (by decide)
      | cons x y =>
        rw [hr, List.getLast?_cons_cons, ← hr] at h2
        exact sq_last1 r c _ _ h2
theorem sqG_len : ∀ (s : List UInt8) (o g : Bool), (sqG o g s).length ≤ 2 * s.length
  | [], o, g => by simp [sqG]
  | c :: r, o, g => by
    by_cases hc : spcX c = true
    · rw [sqG_space hc]; have := sqG_len r o o; simp; omega
    · have hc' : spcX c = false := by simpa using hc
      cases g with
      | true => rw [sqG_gap hc']; have := sqG_len r true false; simp; omega
      | false => rw [sqG_word hc']; have := sqG_len r true false; simp; omega

/-! ### words -/
def fldX : List UInt8 → List UInt8 → List (List UInt8)
  | cur, [] => if cur = [] then [] else [cur]
  | cur, c :: r => if spcX c then (if cur = [] then fldX [] r else cur :: fldX [] r) else fldX (cur ++ [c]) r
def joinX (l : List (List UInt8)) : List UInt8 := ([32] : List UInt8).intercalate l
theorem joinX_cons {a : List UInt8} {l : List (List UInt8)} (h : l ≠ []) : joinX (a :: l) = a ++ 32 :: joinX l := by
  cases l with
  | nil => exact absurd rfl h
  | cons b r => simp [joinX, List.intercalate, List.intersperse]
theorem joinX_one (a : List UInt8) : joinX [a] = a := by simp [joinX, List.intercalate, List.intersperse]
theorem fld_sq : ∀ (s cur : List UInt8), (cur = [] → joinX (fldX [] s) = sqG false false s) ∧ (cur ≠ [] → joinX (fldX cur s) = cur ++ sqG true false s ∧ fldX cur s ≠ []) ∧ (cur = [] → (fldX [] s = [] → sqG true true s = []) ∧ (fldX [] s ≠ [] → sqG true true s = 32 :: joinX (fldX [] s)))
  | [], cur => by
    refine ⟨fun _ => rfl, fun h => ?_, fun _ => ⟨fun _ => rfl, fun h => absurd rfl h⟩⟩
    unfold fldX
    rw [if_neg h, joinX_one]
    simp [sqG]
  | c :: r, cur => by
    by_cases hc : spcX c = true
    · have e : fldX [] (c :: r) = fldX [] r := by
        show (if spcX c then (if ([] : List UInt8) = [] then fldX [] r else _) else _) = _
        rw [if_pos hc, if_pos rfl]
      rw [e, sqG_space hc, sqG_space hc, sqG_space hc]
      obtain ⟨h1, _, h3⟩ := fld_sq r []
      refine ⟨fun _ => h1 rfl, fun h => ?_, fun _ => h3 rfl⟩
      have e2 : fldX cur (c :: r) = cur :: fldX [] r := by
        show (if spcX c then (if cur = [] then fldX [] r else _) else _) = _
        rw [if_pos hc, if_neg h]
      rw [e2]
      refine ⟨?_, by simp⟩
      by_cases hf : fldX [] r = []
      · rw [hf, joinX_one, (h3 rfl).1 hf, List.append_nil]
      · rw [joinX_cons hf, (h3 rfl).2 hf]
    · have hc' : spcX c = false := by simpa using hc
      have e : ∀ cu, fldX cu (c :: r) = fldX (cu ++ [c]) r := fun cu => by
        show (if spcX c then _ else _) = _
        rw [if_neg hc]
      rw [e, e, sqG_word hc', sqG_word hc', sqG_gap hc']
      obtain ⟨_, h2, _⟩ := fld_sq r ([] ++ [c])
      obtain ⟨g1, g2⟩ := h2 (by simp)
      refine ⟨fun _ => by rw [g1]; rfl, fun h => ?_, fun _ => ⟨fun h => absurd h g2, fun _ => by rw [g1]; rfl⟩⟩
      obtain ⟨k1, k2⟩ := (fld_sq r (cur ++ [c])).2.1 (by simp)
      exact ⟨by rw [k1]; simp, k2⟩
theorem fld_join (s : List UInt8) : joinX (fldX [] s) = sqX s := (fld_sq s []).1 rfl

/-! ### by runes -/
/-- The runes that part words. -/
def gapR (r : Nat) : Bool := r == 32 || r == 9 || r == 10 || r == 13
theorem dec_ascii {n b0 b1 b2 b3 : Nat} (h : b0 < 128) : Lib.decodeN n b0 b1 b2 b3 = (b0, 1) := by unfold Lib.decodeN; rw [if_pos h]
set_option maxHeartbeats 2000000 in
theorem dec_more {n b0 b1 b2 b3 : Nat} (h : 128 ≤ b0) : 128 ≤ (Lib.decodeN n b0 b1 b2 b3).1 ∧ 1 ≤ (Lib.decodeN n b0 b1 b2 b3).2 ∧ (2 ≤ (Lib.decodeN n b0 b1 b2 b3).2 → 128 ≤ b1) ∧ (3 ≤ (Lib.decodeN n b0 b1 b2 b3).2 → 128 ≤ b2) ∧ (4 ≤ (Lib.decodeN n b0 b1 b2 b3).2 → 128 ≤ b3) ∧ (Lib.decodeN n b0 b1 b2 b3).2 ≤ 4 := by
  unfold Lib.decodeN
  repeat' split
  all_goals (refine ⟨?_, ?_, ?_, ?_, ?_, ?_⟩ <;> simp only <;> omega)
/-- Bytes that are no blank join the word. -/
theorem fldX_skip : ∀ (k : Nat) (cur s : List UInt8), k ≤ s.length → (∀ i c, i < k → s[i]? = some c → spcX c = false) → fldX cur s = fldX (cur ++ s.take k) (s.drop k)
  | 0, cur, s, _, _ => by simp
  | k + 1, cur, [], hl, _ => by simp at hl
  | k + 1, cur, c :: r, hl, h => by
    have hc := h 0 c (by omega) rfl
    show (if spcX c then _ else _) = _
    rw [if_neg (by rw [hc]; decide), fldX_skip k (cur ++ [c]) r (by simpa using hl) (fun i d hi hd => h (i + 1) d (by omega) hd)]
    simp
theorem spc_big {c : UInt8} (h : 128 ≤ c.toNat) : spcX c = false := by
  have hh : ∀ d : UInt8, d.toNat < 128 → c ≠ d := fun d hd e => by subst e; omega
  simp [spcX, hh 32 (by decide), hh 9 (by decide), hh 10 (by decide), hh 13 (by decide)]
theorem gap_byte (c : UInt8) : gapR c.toNat = spcX c := by
  have e : ∀ d : UInt8, (c.toNat == d.toNat) = (c == d) := fun d => by
    by_cases h : c = d
    · subst h; simp
    · rw [beq_false_of_ne h, beq_false_of_ne (fun q => h (UInt8.toNat_inj.1 q))]
  unfold gapR spcX
  rw [← e 32, ← e 9, ← e 10, ← e 13]; rfl
theorem gap_byte_nat {r : Nat} (h : r < 128) : spcX r.toUInt8 = gapR r := by
  rw [← gap_byte]
  congr 1
  show (UInt8.ofNat r).toNat = r
  rw [UInt8.toNat_ofNat']; omega
theorem get_at {s : ByteArray} {i : Nat} {c : UInt8} (h : s.data.toList[i]? = some c) : s.get! i = c := by
  have hl := (List.getElem?_eq_some_iff.1 h).1
  have : s.get! i = s.data.toList.getD i 0 := by
    show s.data[i]! = _
    simp [List.getD, getElem!_def]
    cases s.data[i]? <;> rfl
  rw [this, List.getD, h]
  rfl
theorem fldX_nil (cur : List UInt8) : fldX cur [] = if cur = [] then [] else [cur] := rfl
theorem tr_spans (s : ByteArray) : ∀ (f pos : Nat) (st : Option Nat) (acc : List (Nat × Nat)), s.size ≤ pos + f → pos ≤ s.size → (∀ a, st = some a → a < pos) →
    acc.map (fun p => Lib.pieceU s.data.toList p.1 p.2) ++ fldX (Lib.openPiece s.data.toList st pos) (s.data.toList.drop pos) = (Lib.closeSpans s (Lib.spansFromP gapR s f pos st acc)).map (fun p => Lib.pieceU s.data.toList p.1 p.2)
  | 0, pos, st, acc, h, hp, hst => by
    obtain rfl : pos = s.size := by omega
    have hd : s.data.toList.drop s.size = [] := List.drop_eq_nil_of_le (by rw [← Lib.size_eq]; exact Nat.le_refl _)
    rw [hd, fldX_nil]
    cases st with
    | none => simp [Lib.spansFromP, Lib.closeSpans, Lib.openPiece]
    | some a =>
      have := Lib.pieceU_ne s.data.toList a s.size (hst a rfl) (by rw [← Lib.size_eq]; exact Nat.le_refl _)
      simp [Lib.spansFromP, Lib.closeSpans, Lib.openPiece, this]
  | f + 1, pos, st, acc, h, hp, hst => by
    by_cases hlt : pos < s.size
    · have hlen : s.data.toList.length = s.size := (Lib.size_eq s).symm
      obtain ⟨c, hc⟩ : ∃ c, s.data.toList[pos]? = some c := ⟨_, List.getElem?_eq_getElem (by omega)⟩
      have hg := get_at hc
      have hw := Lib.width_pos s pos
      have hwn : pos + (Utf8.decode s pos).2 ≤ s.size := by
        have := Lib.decodeN_le_n' (s.size - pos) (s.get! pos).toNat (s.get! (pos + 1)).toNat (s.get! (pos + 2)).toNat (s.get! (pos + 3)).toNat (by omega)
        rw [← Lib.decode_at] at this
        omega
      have hdr : s.data.toList.drop pos = c :: s.data.toList.drop (pos + 1) := by
        rw [List.drop_eq_getElem_cons (by omega)]
        rw [List.getElem?_eq_getElem (by omega)] at hc
        cases hc; rfl
      by_cases h128 : c.toNat < 128
      · have hd : Utf8.decode s pos = (c.toNat, 1) := by rw [Lib.decode_at, hg, dec_ascii h128]
        simp only [Lib.spansFromP, if_pos hlt, hd, gap_byte]
        rw [hdr]
        cases hsp : spcX c with
        | true =>
          simp only [if_true]
          cases st with
          | none =>
            have ih := tr_spans s f (pos + 1) none acc (by omega) (by omega) (fun a h => by cases h)
            rw [← ih]
            show _ ++ (if spcX c then _ else _) = _
            rw [if_pos hsp]
            rfl
          | some a =>
            have hpn := Lib.pieceU_ne s.data.toList a pos (hst a rfl) (by rw [← Lib.size_eq]; omega)
            have ih := tr_spans s f (pos + 1) none (acc ++ [(a, pos)]) (by omega) (by omega) (fun a h => by cases h)
            rw [← ih]
            show _ ++ (if spcX c then (if Lib.pieceU s.data.toList a pos = [] then _ else _) else _) = _
            rw [if_pos hsp, if_neg hpn]
            simp [Lib.openPiece]
        | false =>
          simp only [Bool.false_eq_true, if_false]
          cases st with
          | none =>
            have ih := tr_spans s f (pos + 1) (some pos) acc (by omega) (by omega) (fun a h => by cases h; omega)
            have e : Lib.pieceU s.data.toList pos (pos + 1) = [c] := by
              unfold Lib.pieceU
              rw [hdr, Nat.add_sub_cancel_left]; rfl
            rw [← ih]
            show _ ++ (if spcX c then _ else _) = _
            rw [if_neg (by rw [hsp]; decide)]
            simp [Lib.openPiece, e]
          | some a =>
            have ih := tr_spans s f (pos + 1) (some a) acc (by omega) (by omega) (fun b h => by cases h; have := hst a rfl; omega)
            have e := Lib.pieceU_grow s.data.toList a pos 1 (Nat.le_of_lt (hst a rfl))
            rw [← ih]
            show _ ++ (if spcX c then _ else _) = _
            rw [if_neg (by rw [hsp]; decide)]
            simp only [Lib.openPiece]
            rw [← e, hdr]
            rfl
      · have hb := dec_more (n := s.size - pos) (b0 := (s.get! pos).toNat) (b1 := (s.get! (pos + 1)).toNat) (b2 := (s.get! (pos + 2)).toNat) (b3 := (s.get! (pos + 3)).toNat) (by rw [hg]; omega)
        rw [← Lib.decode_at] at hb
        obtain ⟨h1, h2, h3, h4, h5, h6⟩ := hb
        generalize hR : (Utf8.decode s pos).1 = R at *
        generalize hK : (Utf8.decode s pos).2 = K at *
        have hgap : gapR R = false := by simp [gapR]; omega
        have hskip : ∀ cur, fldX cur (s.data.toList.drop pos) = fldX (cur ++ (s.data.toList.drop pos).take K) (s.data.toList.drop (pos + K)) := fun cur => by
          rw [fldX_skip K cur _ (by rw [List.length_drop]; omega) (fun i d hi hd => spc_big ?_), List.drop_drop]
          rw [List.getElem?_drop] at hd
          have hgd := get_at hd
          have : i = 0 ∨ i = 1 ∨ i = 2 ∨ i = 3 := by omega
          rcases this with rfl | rfl | rfl | rfl
          · rw [Nat.add_zero] at hgd
            rw [← hgd, hg]; omega
          · rw [← hgd]; exact h3 (by omega)
          · rw [← hgd]; exact h4 (by omega)
          · rw [← hgd]; exact h5 (by omega)
        simp only [Lib.spansFromP, if_pos hlt, hR, hK, hgap, Bool.false_eq_true, if_false]
        rw [hskip]
        cases st with
        | none =>
          have ih := tr_spans s f (pos + K) (some pos) acc (by omega) hwn (fun a h => by cases h; omega)
          have e : ([] : List UInt8) ++ (s.data.toList.drop pos).take K = Lib.pieceU s.data.toList pos (pos + K) := by
            unfold Lib.pieceU
            rw [List.nil_append, Nat.add_sub_cancel_left]
          simp only [Lib.openPiece] at ih ⊢
          rw [e]
          exact ih
        | some a =>
          have ih := tr_spans s f (pos + K) (some a) acc (by omega) hwn (fun b h => by cases h; have := hst a rfl; omega)
          simp only [Lib.openPiece] at ih ⊢
          rw [Lib.pieceU_grow _ _ _ _ (Nat.le_of_lt (hst a rfl))]
          exact ih
    · obtain rfl : pos = s.size := by omega
      have hd : s.data.toList.drop s.size = [] := List.drop_eq_nil_of_le (by rw [← Lib.size_eq]; exact Nat.le_refl _)
      rw [hd, fldX_nil, Lib.spansFromP_end gapR s _ _ _ _ hlt]
      cases st with
      | none => simp [Lib.closeSpans, Lib.openPiece]
      | some a =>
        have := Lib.pieceU_ne s.data.toList a s.size (hst a rfl) (by rw [← Lib.size_eq]; exact Nat.le_refl _)
        simp [Lib.closeSpans, Lib.openPiece, this]
/-- What FieldsFunc gives, as lists of bytes. -/
theorem fields_eq (s : ByteArray) : (Lib.goFieldsP gapR s).map (·.data.toList) = fldX [] s.data.toList := by
  have h := tr_spans s s.size 0 none [] (by omega) (Nat.zero_le _) (fun a h => by cases h)
  simp only [List.map_nil, List.nil_append, Lib.openPiece, List.drop_zero] at h
  rw [h]
  unfold Lib.goFieldsP Lib.spansOfP
  rw [List.map_map]
  congr 1
  funext p
  simp [Lib.pieceU]
end Go.Proofs.YtjoeamlidmmioaaGreatDoor

/-
  The library's calls that layer 12 makes, laid.
-/
namespace Go.Proofs.YtjoeamlidmmioaaGreatDoor
open Go.Shelf
set_option maxRecDepth 100000
def Tryz.trFF_ren : Go.Shelf.Ren := ⟨fun | 229 => 16 | n => n, fun | 9 => 9 | 40 => 64 | 31 => 61 | 152 => 83 | 3 => 3 | 0 => 0 | 4 => 4 | 21 => 21 | 154 => 85 | n => n, fun | n => n⟩
theorem Tryz.trFF : Go.Proofs.Lays.n229 Tryz.prog Tryz.trFF_ren := {
  mixed := by kernel_rfl
  f229 := Tryz.func16.trans (congrArg some (by kernel_rfl))
  t0 := Tryz.underlying0
  a0 := Tryz.isAgg0
  z0 := Tryz.sizeOf0
  v0 := Tryz.zeroValue0
  t3 := Tryz.underlying3
  a3 := Tryz.isAgg3
  z3 := Tryz.sizeOf3
  v3 := Tryz.zeroValue3
  t4 := Tryz.underlying4
  a4 := Tryz.isAgg4
  z4 := Tryz.sizeOf4
  v4 := Tryz.zeroValue4
  t9 := Tryz.underlying9
  a9 := Tryz.isAgg9
  z9 := Tryz.sizeOf9
  v9 := Tryz.zeroValue9
  t21 := Tryz.underlying21
  a21 := Tryz.isAgg21
  z21 := Tryz.sizeOf21
  v21 := Tryz.zeroValue21
  t31 := Tryz.underlying61
  a31 := Tryz.isAgg61
  z31 := Tryz.sizeOf61
  v31 := Tryz.zeroValue61
  t40 := Tryz.underlying64
  a40 := Tryz.isAgg64
  z40 := Tryz.sizeOf64
  v40 := Tryz.zeroValue64
  t152 := Tryz.underlying83
  a152 := Tryz.isAgg83
  z152 := Tryz.sizeOf83
  v152 := Tryz.zeroValue83
  t154 := Tryz.underlying85
  a154 := Tryz.isAgg85
  z154 := Tryz.sizeOf85
  v154 := Tryz.zeroValue85 }
def Tryz.trJoin_ren : Go.Shelf.Ren := ⟨fun | 156 => 19 | 165 => 38 | 166 => 39 | 169 => 40 | 240 => 65 | 241 => 66 | 276 => 93 | 277 => 94 | n => n, fun | 31 => 61 | 9 => 9 | 3 => 3 | 4 => 4 | 0 => 0 | 20 => 20 | 72 => 72 | 76 => 90 | 70 => 69 | 37 => 70 | 75 => 89 | 127 => 117 | 164 => 135 | 5 => 5 | 80 => 92 | n => n, fun | n => n⟩
theorem Tryz.trJoin : Go.Proofs.Lays.n156 Tryz.prog Tryz.trJoin_ren := {
  mixed := by kernel_rfl
  f156 := Tryz.func19.trans (congrArg some (by kernel_rfl))
  f165 := Tryz.func38.trans (congrArg some (by kernel_rfl))
  f166 := Tryz.func39.trans (congrArg some (by kernel_rfl))
  f169 := Tryz.func40.trans (congrArg some (by kernel_rfl))
  f240 := Tryz.func65.trans (congrArg some (by kernel_rfl))
  f241 := Tryz.func66.trans (congrArg some (by kernel_rfl))
  f276 := Tryz.func93.trans (congrArg some (by kernel_rfl))
  f277 := Tryz.func94.trans (congrArg some (by kernel_rfl))
  t0 := Tryz.underlying0
  a0 := Tryz.isAgg0
  z0 := Tryz.sizeOf0
  v0 := Tryz.zeroValue0
  t3 := Tryz.underlying3
  a3 := Tryz.isAgg3
  z3 := Tryz.sizeOf3
  v3 := Tryz.zeroValue3
  t4 := Tryz.underlying4
  a4 := Tryz.isAgg4
  z4 := Tryz.sizeOf4
  v4 := Tryz.zeroValue4
  t9 := Tryz.underlying9
  a9 := Tryz.isAgg9
  z9 := Tryz.sizeOf9
  v9 := Tryz.zeroValue9
  t20 := Tryz.underlying20
  a20 := Tryz.isAgg20
  z20 := Tryz.sizeOf20
  v20 := Tryz.zeroValue20
  t31 := Tryz.underlying61
  a31 := Tryz.isAgg61
  z31 := Tryz.sizeOf61
  v31 := Tryz.zeroValue61
  t37 := Tryz.underlying70
  a37 := Tryz.isAgg70
  z37 := Tryz.sizeOf70
  v37 := Tryz.zeroValue70
  t70 := Tryz.underlying69
  a70 := Tryz.isAgg69
  z70 := Tryz.sizeOf69
  v70 := Tryz.zeroValue69
  t72 := Tryz.underlying72
  a72 := Tryz.isAgg72
  z72 := Tryz.sizeOf72
  v72 := Tryz.zeroValue72
  t75 := Tryz.underlying89
  a75 := Tryz.isAgg89
  z75 := Tryz.sizeOf89
  v75 := Tryz.zeroValue89
  t76 := Tryz.underlying90
  a76 := Tryz.isAgg90
  z76 := Tryz.sizeOf90
  v76 := Tryz.zeroValue90
  t127 := Tryz.underlying117
  a127 := Tryz.isAgg117
  z127 := Tryz.sizeOf117
  v127 := Tryz.zeroValue117
  t164 := Tryz.underlying135
  a164 := Tryz.isAgg135
  z164 := Tryz.sizeOf135
  v164 := Tryz.zeroValue135 }
def Tryz.trTrim_ren : Go.Shelf.Ren := ⟨fun | 160 => 42 | 232 => 68 | 231 => 67 | 227 => 69 | 234 => 71 | 233 => 70 | 236 => 73 | 235 => 72 | 228 => 85 | 271 => 96 | 151 => 18 | 197 => 95 | 120 => 107 | 152 => 37 | 260 => 106 | 137 => 61 | 119 => 62 | 224 => 63 | 225 => 64 | 217 => 92 | 266 => 105 | n => n, fun | 9 => 9 | 4 => 4 | 3 => 3 | 5 => 5 | 117 => 121 | 116 => 120 | 0 => 0 | 124 => 124 | 21 => 21 | 105 => 138 | 46 => 116 | 119 => 146 | 139 => 149 | 138 => 148 | n => n, fun | 3 => 2 | 4 => 3 | n => n⟩
theorem Tryz.trTrim : Go.Proofs.Lays.n160 Tryz.prog Tryz.trTrim_ren := {
  mixed := by kernel_rfl
  f119 := Tryz.func62.trans (congrArg some (by kernel_rfl))
  f120 := Tryz.func107.trans (congrArg some (by kernel_rfl))
  f137 := Tryz.func61.trans (congrArg some (by kernel_rfl))
  f151 := Tryz.func18.trans (congrArg some (by kernel_rfl))
  f152 := Tryz.func37.trans (congrArg some (by kernel_rfl))
  f160 := Tryz.func42.trans (congrArg some (by kernel_rfl))
  f197 := Tryz.func95.trans (congrArg some (by kernel_rfl))
  f217 := Tryz.func92.trans (congrArg some (by kernel_rfl))
  f224 := Tryz.func63.trans (congrArg some (by kernel_rfl))
  f225 := Tryz.func64.trans (congrArg some (by kernel_rfl))
  f227 := Tryz.func69.trans (congrArg some (by kernel_rfl))
  f228 := Tryz.func85.trans (congrArg some (by kernel_rfl))
  f231 := Tryz.func67.trans (congrArg some (by kernel_rfl))
  f232 := Tryz.func68.trans (congrArg some (by kernel_rfl))
  f233 := Tryz.func70.trans (congrArg some (by kernel_rfl))
  f234 := Tryz.func71.trans (congrArg some (by kernel_rfl))
  f235 := Tryz.func72.trans (congrArg some (by kernel_rfl))
  f236 := Tryz.func73.trans (congrArg some (by kernel_rfl))
  f260 := Tryz.func106.trans (congrArg some (by kernel_rfl))
  f266 := Tryz.func105.trans (congrArg some (by kernel_rfl))
  f271 := Tryz.func96.trans (congrArg some (by kernel_rfl))
  t0 := Tryz.underlying0
  a0 := Tryz.isAgg0
  z0 := Tryz.sizeOf0
  v0 := Tryz.zeroValue0
  t3 := Tryz.underlying3
  a3 := Tryz.isAgg3
  z3 := Tryz.sizeOf3
  v3 := Tryz.zeroValue3
  t4 := Tryz.underlying4
  a4 := Tryz.isAgg4
  z4 := Tryz.sizeOf4
  v4 := Tryz.zeroValue4
  t5 := Tryz.underlying5
  a5 := Tryz.isAgg5
  z5 := Tryz.sizeOf5
  v5 := Tryz.zeroValue5
  t9 := Tryz.underlying9
  a9 := Tryz.isAgg9
  z9 := Tryz.sizeOf9
  v9 := Tryz.zeroValue9
  t21 := Tryz.underlying21
  a21 := Tryz.isAgg21
  z21 := Tryz.sizeOf21
  v21 := Tryz.zeroValue21
  t46 := Tryz.underlying116
  a46 := Tryz.isAgg116
  z46 := Tryz.sizeOf116
  v46 := Tryz.zeroValue116
  t105 := Tryz.underlying138
  a105 := Tryz.isAgg138
  z105 := Tryz.sizeOf138
  v105 := Tryz.zeroValue138
  t116 := Tryz.underlying120
  a116 := Tryz.isAgg120
  z116 := Tryz.sizeOf120
  t117 := Tryz.underlying121
  a117 := Tryz.isAgg121
  z117 := Tryz.sizeOf121
  v117 := Tryz.zeroValue121
  t119 := Tryz.underlying146
  a119 := Tryz.isAgg146
  z119 := Tryz.sizeOf146
  t124 := Tryz.underlying124
  a124 := Tryz.isAgg124
  z124 := Tryz.sizeOf124
  v124 := Tryz.zeroValue124
  t138 := Tryz.underlying148
  a138 := Tryz.isAgg148
  z138 := Tryz.sizeOf148
  v138 := Tryz.zeroValue148
  t139 := Tryz.underlying149
  a139 := Tryz.isAgg149
  z139 := Tryz.sizeOf149
  v139 := Tryz.zeroValue149
  g3 := by kernel_rfl
  g4 := by kernel_rfl }
def Tryz.trCR_ren : Go.Shelf.Ren := ⟨fun | 151 => 18 | 152 => 37 | 137 => 61 | 119 => 62 | 224 => 63 | 225 => 64 | 217 => 92 | 266 => 105 | n => n, fun | 9 => 9 | 21 => 21 | 4 => 4 | 3 => 3 | 5 => 5 | 0 => 0 | 46 => 116 | n => n, fun | n => n⟩
theorem Tryz.trCR : Go.Proofs.Lays.n151 Tryz.prog Tryz.trCR_ren := {
  mixed := by kernel_rfl
  f119 := Tryz.func62.trans (congrArg some (by kernel_rfl))
  f137 := Tryz.func61.trans (congrArg some (by kernel_rfl))
  f151 := Tryz.func18.trans (congrArg some (by kernel_rfl))
  f152 := Tryz.func37.trans (congrArg some (by kernel_rfl))
  f217 := Tryz.func92.trans (congrArg some (by kernel_rfl))
  f224 := Tryz.func63.trans (congrArg some (by kernel_rfl))
  f225 := Tryz.func64.trans (congrArg some (by kernel_rfl))
  f266 := Tryz.func105.trans (congrArg some (by kernel_rfl))
  t0 := Tryz.underlying0
  a0 := Tryz.isAgg0
  z0 := Tryz.sizeOf0
  v0 := Tryz.zeroValue0
  t3 := Tryz.underlying3
  a3 := Tryz.isAgg3
  z3 := Tryz.sizeOf3
  v3 := Tryz.zeroValue3
  t4 := Tryz.underlying4
  a4 := Tryz.isAgg4
  z4 := Tryz.sizeOf4
  v4 := Tryz.zeroValue4
  t5 := Tryz.underlying5
  a5 := Tryz.isAgg5
  z5 := Tryz.sizeOf5
  v5 := Tryz.zeroValue5
  t9 := Tryz.underlying9
  a9 := Tryz.isAgg9
  z9 := Tryz.sizeOf9
  v9 := Tryz.zeroValue9
  t21 := Tryz.underlying21
  a21 := Tryz.isAgg21
  z21 := Tryz.sizeOf21
  v21 := Tryz.zeroValue21
  t46 := Tryz.underlying116
  a46 := Tryz.isAgg116
  z46 := Tryz.sizeOf116
  v46 := Tryz.zeroValue116 }
theorem Tryz.trJoinX : Builder.Extra Tryz.prog Tryz.trJoin_ren := {
  sizeBuilder := by kernel_rfl
  liesBuilder := by kernel_rfl
  t5 := Tryz.underlying5
  a5 := Tryz.isAgg5
  z5 := Tryz.sizeOf5
  v5 := Tryz.zeroValue5
  infoByte := by kernel_rfl
  cellsByte := by kernel_rfl
  sizeByte := by kernel_rfl
  neB5 := by decide }
end Go.Proofs.YtjoeamlidmmioaaGreatDoor

