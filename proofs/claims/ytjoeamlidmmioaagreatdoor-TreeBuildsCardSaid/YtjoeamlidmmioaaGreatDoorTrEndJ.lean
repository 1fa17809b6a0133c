import Derived.Test.YtjoeamlidmmioaaGreatDoorMq4J
import Derived.Deep.RegionLaw
/-
  LAYER 12 (tree), THE PROGRAM: end.
-/
namespace Go.Proofs.YtjoeamlidmmioaaGreatDoor
open Go.RowKit
set_option linter.unusedVariables false
set_option maxRecDepth 100000

theorem icat_nil : ∀ (l : List (List UInt8)), ([] : List UInt8).intercalate l = l.flatten
  | [] => rfl
  | [a] => by simp [List.intercalate, List.intersperse]
  | a :: b :: r => by
    have ih := icat_nil (b :: r)
    unfold List.intercalate at ih ⊢
    rw [List.intersperse_cons_cons]
    simp only [List.flatten_cons, List.nil_append] at ih ⊢
    rw [ih]
/-- strings.Join of a row. -/
theorem trJoin_any {w : World} {v : Value} {ws : List (List UInt8)} (h : RAt strTy w v (ws.map mk)) (sep : ByteArray) (hl : ws.length ≤ 1 ∨ (sep.data.toList.intercalate ws).length ≤ 140737488355328) (hN : ws.length ≤ 140737488355328) :
    Calls Tryz.prog 19 #[v, .string sep] w fun e w' => e = .returned (.string (mk (sep.data.toList.intercalate ws))) ∧ Below w.heap.size w w' := by
  obtain ⟨a, cap, rfl, hlc, _, _, hc⟩ := h
  have hm : (ws.map mk).map (·.data.toList) = ws := by rw [List.map_map]; exact (List.map_congr_left (fun x _ => mk_data x)).trans (List.map_id _)
  by_cases h0 : ws = []
  · subst h0
    exact (Any.strings_Join_none Tryz.trJoin Tryz.trJoinX a cap sep w).mono fun e w' ⟨h1, h2⟩ => ⟨by rw [h1]; rfl, h2 ▸ Below.refl _ _⟩
  · obtain ⟨sb, so, rfl, hlt, hcc⟩ := hc (by simpa using h0)
    have e1 : strTy.flat (ws.map mk) = (ws.map mk).map .string := by
      generalize ws.map mk = q
      induction q with
      | nil => rfl
      | cons x r ih => rw [flat_cons, ih]; rfl
    have hcell : ∀ (j : Nat) x, (ws.map mk)[j]? = some x → w.cell? ⟨sb, so + j, none⟩ = some (.string x) := fun j x hj => hcc j _ (by rw [e1, List.getElem?_map, hj]; rfl)
    rcases hl with hl | hl
    · match ws, h0, hl, hcell with
      | [x], _, _, hcell =>
        refine (Any.strings_Join_one Tryz.trJoin Tryz.trJoinX sb so cap (mk x) sep w (hcell 0 (mk x) rfl)).mono fun e w' ⟨h1, h2⟩ => ⟨?_, h2 ▸ Below.refl _ _⟩
        rw [h1]
        simp [List.intercalate, List.intersperse]
      | _ :: _ :: _, _, hl, _ => simp at hl
    · exact (Any.strings_Join Tryz.trJoin Tryz.trJoinX sb so cap (ws.map mk) sep w hcell hlt (by simpa using hN) hlc (by rw [hm]; exact hl)).mono fun e w' ⟨h1, h2⟩ => ⟨by rw [h1, hm]; rfl, h2⟩
theorem mk_toL (l : List UInt8) : (mk l).toList = l := by rw [Lib.toList_data, mk_data]
/-- What the words of an element may be. -/
def OkW (ws : List (List UInt8)) : Prop := (ws.length ≤ 1 ∨ ws.flatten.length ≤ 140737488355328) ∧ ws.length ≤ 1000000
theorem end_take {s : BdX} {t : TkX} (hk : t.k = 2) : takeX s t = match s.op with
    | [] => (8, s)
    | e :: r => if e.n = t.n then (0, endB e r s.root) else (8, s) := by
  unfold takeX
  rw [if_neg (by omega), if_pos hk]
  rfl
set_option maxHeartbeats 4000000 in
theorem end_no {w0 w : World} {b : Nat} {s : BdX} (h : BdHas w0 w b s) (t : TkX) (hk : t.k = 2) (hop : s.op.length ≤ 20) (hb : (takeX s t).1 = 8) :
    Calls Tryz.prog 21 #[.pointer (some ⟨b, 0, none⟩), .string (mk t.n)] w fun e w' => e = .returned (.int .i64 8) ∧ BdHas w0 w' b s := by
  rw [end_take hk] at hb
  have HB := hid h
  obtain ⟨ρ, ao, cap, V, rx, h⟩ := h
  have c0 : w.cell? ⟨b, 0, none⟩ = some (.slice ao V.length cap) := by rw [h.blk.cell]; rfl
  have hV := h.len
  obtain ⟨op, r⟩ := s
  cases op with
  | nil =>
    have hv0 : V.length = 0 := hV
    rw [hv0] at c0
    clear h hV hop hb
    go_enter Tryz.func21, Tryz.ntmps21
    go_wp2
    go_ret
    exact ⟨rfl, HB.out⟩
  | cons e st =>
    have hne : e.n ≠ t.n := fun q => by
      simp only at hb
      rw [if_pos q] at hb
      cases hb
    obtain ⟨y, g, hy, hl2, hE, hao, hg, hρ, hcs, hfz⟩ := bdAt_last h
    subst hao
    have k0 : w.cell? ⟨g, st.length * 5, none⟩ = some (.string (mk e.n)) := by rw [← hE.hn]; exact hcs 0 _ rfl
    rw [hl2] at c0
    have hm20 : st.length ≤ 20 := by simp at hop; omega
    have hq1 : ((mk e.n).toList == (mk t.n).toList) = false := by rw [mk_toL, mk_toL]; exact beq_eq_false_iff_ne.2 hne
    clear h hV hop hcs hfz hy hE hl2 hk hb hne
    generalize st.length = m at *
    have hw : wrap64 (m : Int) = m := by unfold wrap64; omega
    have hlt1 : (m : Int) < (m : Int) + 1 := by omega
    have hlt2 : ¬ ((m : Int) < 0) := by omega
    go_enter Tryz.func21, Tryz.ntmps21
    go_wp2
    go_ret
    exact ⟨rfl, HB.out⟩
/-- What end needs behind Join: n lies in the block nb. -/
structure EdMid (w0 w2 : World) (b nb g m cap : Nat) (z : NdV) (s' : BdX) (u : Tr) : Prop where
  c0 : w2.cell? ⟨b, 0, none⟩ = some (.slice (some ⟨g, 0, none⟩) (m + 1) cap)
  n2 : w2.cell? ⟨nb, 2, none⟩ = some (.string ⟨#[]⟩)
  f2 : w2.frozen? ⟨nb, 2, none⟩ = false
  d0 : (w2.setCell ⟨nb, 2, none⟩ (.string (mk z.t))).cell? ⟨b, 0, none⟩ = some (.slice (some ⟨g, 0, none⟩) (m + 1) cap)
  g0 : (w2.setCell ⟨nb, 2, none⟩ (.string (mk z.t))).frozen? ⟨b, 0, none⟩ = false
  own4 : own ((w2.setCell ⟨nb, 2, none⟩ (.string (mk z.t))).setCell ⟨b, 0, none⟩ (.slice (some ⟨g, 0, none⟩) m cap)) nb (ndCs z).toArray 30
  bd : ∃ ρ V rx, BdAt w0 ((w2.setCell ⟨nb, 2, none⟩ (.string (mk z.t))).setCell ⟨b, 0, none⟩ (.slice (some ⟨g, 0, none⟩) m cap)) ρ b s' (some ⟨g, 0, none⟩) cap V rx ∧ V.length = m ∧ ρ nb = 0 ∧ NdIn atTy ndTy ((w2.setCell ⟨nb, 2, none⟩ (.string (mk z.t))).setCell ⟨b, 0, none⟩ (.slice (some ⟨g, 0, none⟩) m cap)) (fun x => ρ x = 1) z u
theorem ed_mid {w0 w w2 : World} {ρ : Nat → Nat} {b : Nat} {g cap : Nat} {V : List ElV} {rx : NdV} {e : OpX} {st : List OpX} {r : Option Tr} (h : BdAt w0 w ρ b ⟨e :: st, r⟩ (some ⟨g, 0, none⟩) cap V rx) {y : ElV} (hy : V[st.length]? = some y)
    (hb : Below (w.alloc (.cells (ndCs y.x).toArray 30)).heap.size (w.alloc (.cells (ndCs y.x).toArray 30)) w2) : EdMid w0 w2 b w.heap.size g st.length cap { y.x with t := e.ws.flatten } ⟨st, r⟩ (shutX e) := by
  have hb1 : Below w.heap.size w (w.alloc (.cells (ndCs y.x).toArray 30)) := (Below.refl _ _).alloc (Nat.le_refl _) _
  have hb2 : Below w.heap.size w w2 := hb1.trans (hb.mono hb1.size)
  have hz1 : (w.alloc (.cells (ndCs y.x).toArray 30)).heap.size = w.heap.size + 1 := by simp
  have o2 : own w2 w.heap.size (ndCs y.x).toArray 30 := (own.new w _ _).same (hb.block _ (by rw [hz1]; omega))
  have h2 := bdAt_later h hb2
  have h3 := bdAt_later h (hb2.setCell (p := ⟨w.heap.size, 2, none⟩) (Nat.le_refl _) (.string (mk e.ws.flatten)))
  have hl2 : V.length = st.length + 1 := by rw [h.len]; simp
  have hbn : w.heap.size ≠ b := fun q => by have := h.blk.lt; omega
  obtain ⟨ρ', hρ', h4, hn4⟩ := bd_cut h3 hy
  obtain ⟨y', _, hy', _, hE, _⟩ := bdAt_last h
  rw [hy] at hy'; cases hy'
  refine ⟨by rw [h2.blk.cell, hl2]; rfl, by rw [o2.cell]; simp [ndCs, hE.ht]; rfl, o2.frozen 2, by rw [h3.blk.cell, hl2]; rfl, h3.blk.frozen 0, ?_, ρ', V.take st.length, rx, h4, by rw [List.length_take]; omega, hρ' _ (bdAt_out h _ (Nat.le_refl _)), hn4⟩
  have := (o2.set 2 (.string (mk e.ws.flatten))).other (p := ⟨b, 0, none⟩) hbn (.slice (some ⟨g, 0, none⟩) st.length cap)
  simpa [ndCs] using this
/-- .. when it is the first element. -/
structure RtMid (w0 W : World) (b nb : Nat) (x0 : ByteArray) (x1 : Value) (x2 : ByteArray) (x3 : Value) (s' : BdX) : Prop where
  n0 : W.cell? ⟨nb, 0, none⟩ = some (.string x0)
  n1 : W.cell? ⟨nb, 1, none⟩ = some x1
  n2 : W.cell? ⟨nb, 2, none⟩ = some (.string x2)
  n3 : W.cell? ⟨nb, 3, none⟩ = some x3
  r1 : ∃ v, W.cell? ⟨b, 1, none⟩ = some v
  r2 : ∃ v, W.cell? ⟨b, 2, none⟩ = some v
  r3 : ∃ v, W.cell? ⟨b, 3, none⟩ = some v
  r4 : ∃ v, W.cell? ⟨b, 4, none⟩ = some v
  r5 : ∃ v, ((((W.setCell ⟨b, 1, none⟩ (.string x0)).setCell ⟨b, 2, none⟩ x1).setCell ⟨b, 3, none⟩ (.string x2)).setCell ⟨b, 4, none⟩ x3).cell? ⟨b, 5, none⟩ = some v
  s1 : W.frozen? ⟨b, 1, none⟩ = false
  s2 : W.frozen? ⟨b, 2, none⟩ = false
  s3 : W.frozen? ⟨b, 3, none⟩ = false
  s4 : W.frozen? ⟨b, 4, none⟩ = false
  s5 : ((((W.setCell ⟨b, 1, none⟩ (.string x0)).setCell ⟨b, 2, none⟩ x1).setCell ⟨b, 3, none⟩ (.string x2)).setCell ⟨b, 4, none⟩ x3).frozen? ⟨b, 5, none⟩ = false
  fin : Hid (BdHas w0 (((((W.setCell ⟨b, 1, none⟩ (.string x0)).setCell ⟨b, 2, none⟩ x1).setCell ⟨b, 3, none⟩ (.string x2)).setCell ⟨b, 4, none⟩ x3).setCell ⟨b, 5, none⟩ (.bool true)) b s')
theorem rt_mid {w0 W : World} {ρ : Nat → Nat} {b : Nat} {ao : Option Addr} {cap : Nat} {V : List ElV} {rx : NdV} {e : OpX} {r : Option Tr} {z : NdV} (h : BdAt w0 W ρ b ⟨[], r⟩ ao cap V rx) (hz : NdIn atTy ndTy W (fun x => ρ x = 1) z (shutX e)) {nb : Nat} (ho : own W nb (ndCs z).toArray 30) :
    RtMid w0 W b nb (mk z.n) (.slice z.a z.am z.ac) (mk z.t) (.slice z.k z.km z.kc) (endB e [] r) := by
  have ob := h.blk
  have o5 := (((ob.set 1 (.string (mk z.n))).set 2 (.slice z.a z.am z.ac)).set 3 (.string (mk z.t))).set 4 (.slice z.k z.km z.kc)
  exact ⟨by rw [ho.cell]; rfl, by rw [ho.cell]; rfl, by rw [ho.cell]; rfl, by rw [ho.cell]; rfl, ⟨_, by rw [ob.cell]; rfl⟩, ⟨_, by rw [ob.cell]; rfl⟩, ⟨_, by rw [ob.cell]; rfl⟩, ⟨_, by rw [ob.cell]; rfl⟩, ⟨_, by rw [o5.cell]; rfl⟩, ob.frozen 1, ob.frozen 2, ob.frozen 3, ob.frozen 4, o5.frozen 5, hid (bd_root h hz)⟩
/-- .. and when there is an element around it. -/
structure KdMid (w0 W : World) (b nb g m n : Nat) (z : NdV) (kv : Value) (s' : BdX) : Prop where
  k3 : W.cell? ⟨g, m * 5 + 3, none⟩ = some kv
  k3b : (W.alloc (.cells (ndCs nd0).toArray 30)).cell? ⟨g, m * 5 + 3, none⟩ = some kv
  nW : ∀ j u, (ndCs z)[j]? = some u → W.cell? ⟨nb, j, none⟩ = some u ∧ (W.alloc (.cells (ndCs nd0).toArray 30)).cell? ⟨nb, j, none⟩ = some u
  run : ∃ gk c' w5, (Builtin.append_ #[28, 28] 28 #[kv, .slice (some ⟨W.heap.size, 0, none⟩) 1 1]).run Tryz.prog (W.alloc (.cells (ndCs nd0).toArray 30)).drew = .ok (.slice (some ⟨gk, 0, none⟩) (n + 1) c') w5 ∧
    (∀ j u, (ndCs z)[j]? = some u → w5.cell? ⟨nb, j, none⟩ = some u) ∧ (∀ j u, (ndCs nd0)[j]? = some u → w5.cell? ⟨gk, n * 4 + j, none⟩ = some u) ∧ (∀ j, w5.frozen? ⟨gk, j, none⟩ = false) ∧ w5.cell? ⟨g, m * 5 + 3, none⟩ = some kv ∧
    (kidW w5 gk n z).cell? ⟨g, m * 5 + 3, none⟩ = some kv ∧ (kidW w5 gk n z).frozen? ⟨g, m * 5 + 3, none⟩ = false ∧ w5.frozen? ⟨g, m * 5 + 3, none⟩ = false ∧ (∀ j u, (ndCs nd0)[j]? = some u → (w5.setCell ⟨g, m * 5 + 3, none⟩ (.slice (some ⟨gk, 0, none⟩) (n + 1) c')).cell? ⟨gk, n * 4 + j, none⟩ = some u) ∧ (∀ j, (w5.setCell ⟨g, m * 5 + 3, none⟩ (.slice (some ⟨gk, 0, none⟩) (n + 1) c')).frozen? ⟨gk, j, none⟩ = false) ∧ (∀ j u, (ndCs z)[j]? = some u → (w5.setCell ⟨g, m * 5 + 3, none⟩ (.slice (some ⟨gk, 0, none⟩) (n + 1) c')).cell? ⟨nb, j, none⟩ = some u) ∧
    Hid (BdHas w0 (kidW (w5.setCell ⟨g, m * 5 + 3, none⟩ (.slice (some ⟨gk, 0, none⟩) (n + 1) c')) gk n z) b s') ∧ Hid (BdHas w0 ((kidW w5 gk n z).setCell ⟨g, m * 5 + 3, none⟩ (.slice (some ⟨gk, 0, none⟩) (n + 1) c')) b s')
theorem setCell_comm (w : World) (p q : Addr) (h : p.block ≠ q.block) (u v : Value) : (w.setCell p u).setCell q v = (w.setCell q v).setCell p u := by
  unfold World.setCell
  congr 1
  apply Array.ext_getElem?
  intro i
  simp only [Array.getElem?_modify]
  by_cases h1 : p.block = i
  · subst h1
    simp [h.symm]
  · simp [h1]
theorem kidW_comm (w : World) (g n : Nat) (z : NdV) (p : Addr) (v : Value) (h : p.block ≠ g) : kidW (w.setCell p v) g n z = (kidW w g n z).setCell p v := by
  unfold kidW
  rw [setCell_comm w p ⟨g, n * 4, none⟩ h, setCell_comm _ p ⟨g, n * 4 + 1, none⟩ h, setCell_comm _ p ⟨g, n * 4 + 2, none⟩ h, setCell_comm _ p ⟨g, n * 4 + 3, none⟩ h]
theorem kidW_frozen (w : World) (g n : Nat) (z : NdV) (a : Addr) : (kidW w g n z).frozen? a = w.frozen? a := by unfold kidW; simp only [setCell_frozen]
theorem kd_mid {w0 W : World} {ρ : Nat → Nat} {b : Nat} {g cap : Nat} {V : List ElV} {rx : NdV} {d : OpX} {st : List OpX} {r : Option Tr} {z : NdV} {u : Tr} (h : BdAt w0 W ρ b ⟨d :: st, r⟩ (some ⟨g, 0, none⟩) cap V rx) (hz : NdIn atTy ndTy W (fun x => ρ x = 1) z u) {nb : Nat} (hnb : ρ nb = 0) (ho : own W nb (ndCs z).toArray 30) (hl : d.ks.length ≤ 1000000) :
    ∃ ka kc, KdMid w0 W b nb g st.length d.ks.length z (.slice ka d.ks.length kc) ⟨{ d with ks := d.ks ++ [u] } :: st, r⟩ := by
  obtain ⟨y, g', hy, hl2, hE, hao, hg, hρ, hcs, hfz⟩ := bdAt_last h
  cases hao
  have hb : Below W.heap.size W (W.alloc (.cells (ndCs nd0).toArray 30)).drew := ((Below.refl _ _).alloc (Nat.le_refl _) _).drew
  obtain ⟨gk, c', w5, e1, e2, e3, e4, e5, e6, e7, e8, e9⟩ := bd_kid (bdAt_later h hb) (ndIn_below hz hb) hy rfl (gb := W.heap.size) (cs := (ndCs nd0).toArray) (T := 30) (own.new W _ _) (by simp) hl
  have hcA : ∀ a : Addr, a.block < W.heap.size → (W.alloc (.cells (ndCs nd0).toArray 30)).cell? a = W.cell? a := fun a ha => World.cell?_alloc_old W _ a (Nat.ne_of_lt ha)
  have hnc : ∀ j u, (ndCs z)[j]? = some u → W.cell? ⟨nb, j, none⟩ = some u := fun j u hj => by rw [ho.cell]; simpa using hj
  have hk3 : W.cell? ⟨g, st.length * 5 + 3, none⟩ = some (.slice y.x.k y.x.km y.x.kc) := hcs 3 _ rfl
  rw [e8] at hk3 e1 e5
  have hkc : (kidW w5 gk d.ks.length z).cell? ⟨g, st.length * 5 + 3, none⟩ = some (.slice y.x.k d.ks.length y.x.kc) := by
    rw [← e5]
    unfold World.cell?
    rw [kidW_other _ _ _ _ (fun q => e4 q.symm)]
  have hgn : g ≠ nb := fun q => by rw [q, hnb] at hρ; cases hρ
  have hn5 : ∀ j u, (ndCs z)[j]? = some u → w5.cell? ⟨nb, j, none⟩ = some u := fun j u hj => by
    have := hnc j u hj
    unfold World.cell? at this ⊢
    rw [e7 nb hnb (by have := ho.lt; have := hb.size; omega), hb.block nb ho.lt]
    exact this
  have hoth : ∀ x j u v, x ≠ g → w5.cell? ⟨x, j, none⟩ = some u → (w5.setCell ⟨g, st.length * 5 + 3, none⟩ v).cell? ⟨x, j, none⟩ = some u := fun x j u v hx hc => by
    rw [← hc]
    unfold World.cell?
    rw [Below.heap_setCell _ _ _ _ hx]
  refine ⟨y.x.k, y.x.kc, hk3, by rw [hcA _ hg]; exact hk3, fun j u hj => ⟨hnc j u hj, by rw [hcA _ ho.lt]; exact hnc j u hj⟩, gk, c', w5, e1, hn5, e2, e3, e5, hkc, by rw [kidW_frozen]; exact e6 _, e6 _, fun j u hj => hoth _ _ _ _ e4 (e2 j u hj), fun j => by rw [setCell_frozen]; exact e3 j, fun j u hj => hoth _ _ _ _ (fun q => hgn q.symm) (hn5 j u hj), hid (by rw [kidW_comm _ _ _ _ _ _ (fun q => e4 q.symm)]; exact e9), hid e9⟩
set_option maxHeartbeats 4000000 in
theorem end_yes {w0 w : World} {b : Nat} {e : OpX} {st : List OpX} {r : Option Tr} (h : BdHas w0 w b ⟨e :: st, r⟩) (hop : st.length ≤ 20) (hW : OkW e.ws) (hks : ∀ d st', st = d :: st' → d.ks.length ≤ 1000000) :
    Calls Tryz.prog 21 #[.pointer (some ⟨b, 0, none⟩), .string (mk e.n)] w fun q w' => q = .returned (.int .i64 0) ∧ BdHas w0 w' b (endB e st r) := by
  obtain ⟨ρ, ao, cap, V, rx, h⟩ := h
  obtain ⟨y, g, hy, hl2, hE, rfl, hg, hρ, hcs, hfz⟩ := bdAt_last h
  have c0 : w.cell? ⟨b, 0, none⟩ = some (.slice (some ⟨g, 0, none⟩) V.length cap) := by rw [h.blk.cell]; rfl
  have k0 : w.cell? ⟨g, st.length * 5, none⟩ = some (.string (mk e.n)) := by rw [← hE.hn]; exact hcs 0 _ rfl
  have k1 : w.cell? ⟨g, st.length * 5 + 1, none⟩ = some (.slice y.x.a y.x.am y.x.ac) := hcs 1 _ rfl
  have k2 : w.cell? ⟨g, st.length * 5 + 2, none⟩ = some (.string (mk [])) := by rw [← hE.ht]; exact hcs 2 _ rfl
  have k3 : w.cell? ⟨g, st.length * 5 + 3, none⟩ = some (.slice y.x.k y.x.km y.x.kc) := hcs 3 _ rfl
  have hbx : Below w.heap.size w (w.alloc (.cells #[.string (mk e.n), .slice y.x.a y.x.am y.x.ac, .string (mk []), .slice y.x.k y.x.km y.x.kc] 30)) := (Below.refl _ _).alloc (Nat.le_refl _) _
  have h1 := bdAt_later h hbx
  obtain ⟨y', g', hy', _, hE1, hao', _, _, hcs1, _⟩ := bdAt_last h1
  rw [hy] at hy'; cases hy'
  cases hao'
  have k4 : (w.alloc (.cells #[.string (mk e.n), .slice y.x.a y.x.am y.x.ac, .string (mk []), .slice y.x.k y.x.km y.x.kc] 30)).cell? ⟨g, st.length * 5 + 4, none⟩ = some (.slice y.w y.wm y.wc) := hcs1 4 _ rfl
  have c1 : (w.alloc (.cells #[.string (mk e.n), .slice y.x.a y.x.am y.x.ac, .string (mk []), .slice y.x.k y.x.km y.x.kc] 30)).cell? ⟨b, 0, none⟩ = some (.slice (some ⟨g, 0, none⟩) V.length cap) := by rw [h1.blk.cell]; rfl
  have HJ := hid (trJoin_any hE1.hw.rAt ⟨#[]⟩ (by
    rcases hW.1 with q | q
    · exact .inl q
    · exact .inr (by rw [show (⟨#[]⟩ : ByteArray).data.toList = [] from rfl, icat_nil]; exact q)) (by have := hW.2; omega))
  rw [show (⟨#[]⟩ : ByteArray).data.toList = [] from rfl, icat_nil] at HJ
  have hcE : (ndCs y.x).toArray = #[.string (mk e.n), .slice y.x.a y.x.am y.x.ac, .string (mk []), .slice y.x.k y.x.km y.x.kc] := by simp [ndCs, hE.hn, hE.ht]
  have HM := hid (fun w2 hb => ed_mid (w2 := w2) h hy hb)
  rw [hcE] at HM
  have q1 : ((mk e.n).toList == (mk e.n).toList) = true := beq_self_eq_true _
  rw [hl2] at c0 c1
  have hn : y.x.n = e.n := hE.hn
  have hcap : st.length + 1 ≤ cap := by
    obtain ⟨_, _, q, q2, _⟩ := h.opn.slice
    cases q; omega
  clear h h1 hcs hcs1 hfz hE hE1 hcE hy hW
  cases st with
  | nil =>
    clear hks
    have HR : Hid (∀ w2, EdMid w0 w2 b w.heap.size g ([] : List OpX).length cap { y.x with t := e.ws.flatten } ⟨[], r⟩ (shutX e) → RtMid w0 ((w2.setCell ⟨w.heap.size, 2, none⟩ (.string (mk e.ws.flatten))).setCell ⟨b, 0, none⟩ (.slice (some ⟨g, 0, none⟩) 0 cap)) b w.heap.size (mk e.n) (.slice y.x.a y.x.am y.x.ac) (mk e.ws.flatten) (.slice y.x.k y.x.km y.x.kc) (endB e [] r)) := hid (fun w2 E => by
      obtain ⟨ρ, V, rx, hB, hVl, hnb, hN⟩ := E.bd
      have := rt_mid hB hN E.own4
      rw [show ({ y.x with t := e.ws.flatten } : NdV).n = e.n from hn] at this
      exact this)
    simp only [List.length_nil, Nat.zero_mul, Nat.zero_add] at k0 k1 k2 k3 k4 c0 c1 HM HR
    go_enter Tryz.func21, Tryz.ntmps21
    go_wp2_with (go_at_call 19; (with_reducible refine HJ.out.mono ?_); rintro q w2 ⟨rfl, hb⟩; (obtain ⟨n0, n1, n2, n3, ⟨v1, r1⟩, ⟨v2, r2⟩, ⟨v3, r3⟩, ⟨v4, r4⟩, ⟨v5, r5⟩, s1, s2, s3, s4, s5, HF⟩ := HR.out w2 (HM.out w2 hb)); (obtain ⟨d0, d1, d2, d3, d4, d5, HB⟩ := HM.out w2 hb))
    go_ret
    exact ⟨rfl, HF.out⟩
  | cons d st' =>
    rw [show endB e (d :: st') r = ⟨{ d with ks := d.ks ++ [shutX e] } :: st', r⟩ from rfl]
    have hl3 := hks d st' rfl
    have hM1 : (d :: st').length = st'.length + 1 := rfl
    have HM2 : Hid (∀ w2, EdMid w0 w2 b w.heap.size g (d :: st').length cap { y.x with t := e.ws.flatten } ⟨d :: st', r⟩ (shutX e) → ∃ ka kc, KdMid w0 ((w2.setCell ⟨w.heap.size, 2, none⟩ (.string (mk e.ws.flatten))).setCell ⟨b, 0, none⟩ (.slice (some ⟨g, 0, none⟩) (d :: st').length cap)) b w.heap.size g st'.length d.ks.length { y.x with t := e.ws.flatten } (.slice ka d.ks.length kc) ⟨{ d with ks := d.ks ++ [shutX e] } :: st', r⟩ ∧
        ((w2.setCell ⟨w.heap.size, 2, none⟩ (.string (mk e.ws.flatten))).setCell ⟨b, 0, none⟩ (.slice (some ⟨g, 0, none⟩) (d :: st').length cap)).cell? ⟨b, 0, none⟩ = some (.slice (some ⟨g, 0, none⟩) (d :: st').length cap)) := hid (fun w2 E => by
      obtain ⟨ρ, V, rx, hB, hVl, hnb, hN⟩ := E.bd
      obtain ⟨ka, kc, K⟩ := kd_mid hB hN hnb E.own4 hl3
      exact ⟨ka, kc, K, by rw [hB.blk.cell, ← hVl]; rfl⟩)
    clear hks hl3
    generalize (d :: st').length = M at *
    have hM2 : st'.length = M - 1 := by omega
    have hM3 : 1 ≤ M := by omega
    rw [hM2] at HM2
    generalize d.ks.length = kn at *
    have hw : wrap64 (M : Int) = M := by unfold wrap64; omega
    have hlt1 : (M : Int) < (M : Int) + 1 := by omega
    have hlt2 : ¬ ((M : Int) < 0) := by omega
    have hM0 : ((M : Int) == 0) = false := by rw [beq_eq_false_iff_ne]; omega
    have hw1 : wrap64 ((M : Int) - 1) = (M : Int) - 1 := by unfold wrap64; omega
    have hlt3 : (M : Int) - 1 < (M : Int) := by omega
    have hlt4 : M - 1 < M := by omega
    have hkn : (kn : Int) < (kn : Int) + 1 := by omega
    have hlt5 : ¬ ((M : Int) - 1 < 0) := by omega
    have hMc : M ≤ cap := by omega
    have hMd : (M : Int) ≤ (cap : Int) := by omega
    clear hM1 hM2
    go_enter Tryz.func21, Tryz.ntmps21
    go_wp2_with (go_at_call 19; (with_reducible refine HJ.out.mono ?_); rintro q w2 ⟨rfl, hb⟩; (obtain ⟨ka, kc, K, e0⟩ := HM2.out w2 (HM.out w2 hb)); (obtain ⟨d0, d1, d2, d3, d4, d5, HB⟩ := HM.out w2 hb))
    obtain ⟨k5, k5b, nW, gk, c', w5, e1, e2, e3, e4, e5, e6, e7, f5, f6, f7, f8, HF2, HF⟩ := K
    have t0 := (nW 0 _ rfl).1
    have t1 := (nW 1 _ rfl).1
    have t2 := (nW 2 _ rfl).1
    have t3 := (nW 3 _ rfl).1
    have u0 := (nW 0 _ rfl).2
    have u1 := (nW 1 _ rfl).2
    have u2 := (nW 2 _ rfl).2
    have u3 := (nW 3 _ rfl).2
    have v0 := e2 0 _ rfl
    have v1 := e2 1 _ rfl
    have v2 := e2 2 _ rfl
    have v3 := e2 3 _ rfl
    have z0 := e3 0 _ rfl
    have z1 := e3 1 _ rfl
    have z2 := e3 2 _ rfl
    have z3 := e3 3 _ rfl
    have y0 := e4 (kn * 4)
    have y1 := e4 (kn * 4 + 1)
    have y2 := e4 (kn * 4 + 2)
    have y3 := e4 (kn * 4 + 3)
    have a0 := f6 0 _ rfl
    have a1 := f6 1 _ rfl
    have a2 := f6 2 _ rfl
    have a3 := f6 3 _ rfl
    have b0 := f7 (kn * 4)
    have b1 := f7 (kn * 4 + 1)
    have b2 := f7 (kn * 4 + 2)
    have b3 := f7 (kn * 4 + 3)
    have g0 := f8 0 _ rfl
    have g1 := f8 1 _ rfl
    have g2 := f8 2 _ rfl
    have g3 := f8 3 _ rfl
    simp only [Nat.add_zero] at z0 a0
    clear nW e2 e3 e4 f6 f7 f8 HM HM2 HJ HB
    unfold kidW at e6 e7 HF HF2
    simp only [hn] at e6 e7 HF HF2
    have hZ : (ndCs nd0).toArray = #[.string ⟨#[]⟩, .slice none 0 0, .string ⟨#[]⟩, .slice none 0 0] := rfl
    rw [hZ] at e1 k5b u0 u1 u2 u3
    clear hZ d0 d1 d2 d3 d4 d5 k0 k1 k2 k3 k4 c0 c1 hb
    generalize (w2.setCell ⟨w.heap.size, 2, none⟩ (.string (mk e.ws.flatten))).setCell ⟨b, 0, none⟩ (.slice (some ⟨g, 0, none⟩) M cap) = WN at *
    go_wp2
    go_region_law (refine step_append_at e1 (by with_reducible rfl) rfl _ _ rfl rfl rfl rfl ?_)
    all_goals
      go_wp2
      go_ret
      refine ⟨rfl, ?_⟩
      first
        | (with_reducible exact HF.out)
        | (with_reducible exact HF2.out)
end Go.Proofs.YtjoeamlidmmioaaGreatDoor

