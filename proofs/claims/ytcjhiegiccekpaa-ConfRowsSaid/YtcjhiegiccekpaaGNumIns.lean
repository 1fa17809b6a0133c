/-
  GENERAL: slices.Insert of one int into a row of ints which the call has made: the library's contracts, laid (the tables of numbers in plain words), and what they make of the row.
-/
import Derived.Test.YtcjhiegiccekpaaGNumB
import Derived.Shelf.Spec.SlicesInsert
import Derived.Shelf.Spec.SlicesInsertGrow
namespace Go.Proofs.Ytcjhiegiccekpaa
open Go.Shelf Go.RowKit Go.Sort
set_option linter.unusedVariables false
set_option maxRecDepth 100000
def Try.insertI_ren : Go.Shelf.Ren := ⟨fun | 21 => 35 | 27 => 43 | 28 => 44 | 35 => 47 | 39 => 52 | n => n, fun | 22 => 22 | 3 => 3 | 4 => 4 | 0 => 0 | n => n, fun | n => n⟩
theorem Try.insertI : Go.Proofs.Lays2.n21 Try.prog Try.insertI_ren := {
  mixed := by kernel_rfl
  f21 := Try.func35.trans (congrArg some (by kernel_rfl))
  f27 := Try.func43.trans (congrArg some (by kernel_rfl))
  f28 := Try.func44.trans (congrArg some (by kernel_rfl))
  f35 := Try.func47.trans (congrArg some (by kernel_rfl))
  f39 := Try.func52.trans (congrArg some (by kernel_rfl))
  t0 := Try.underlying0
  a0 := Try.isAgg0
  z0 := Try.sizeOf0
  v0 := Try.zeroValue0
  t3 := Try.underlying3
  a3 := Try.isAgg3
  z3 := Try.sizeOf3
  v3 := Try.zeroValue3
  t4 := Try.underlying4
  a4 := Try.isAgg4
  z4 := Try.sizeOf4
  v4 := Try.zeroValue4
  t22 := Try.underlying22
  a22 := Try.isAgg22
  z22 := Try.sizeOf22
  v22 := Try.zeroValue22
  i3 := by kernel_rfl }
theorem setCells_list {w : World} {b : Nat} {T : TypeId} {fz : Nat × Nat} : ∀ (vs : List Value) (o : Nat) (w : World) (cur : Array Value), w.heap[b]? = some (.cells cur T fz) → o + vs.length ≤ cur.size → ∃ cur' : Array Value, (w.setCells b o vs).heap[b]? = some (.cells cur' T fz) ∧ cur'.toList = cur.toList.take o ++ vs ++ cur.toList.drop (o + vs.length)
  | [], o, w, cur, hb, h => ⟨cur, hb, by simp⟩
  | v :: r, o, w, cur, hb, h => by
    have hb2 : (w.setCell ⟨b, o, none⟩ v).heap[b]? = some (.cells (cur.setIfInBounds o v) T fz) := by
      simp [World.setCell, Array.getElem?_modify, hb]
    have ho : o < cur.toList.length := by simp at h ⊢; omega
    obtain ⟨cur', h1, h2⟩ := setCells_list (w := w) r (o + 1) _ _ hb2 (by simp at h ⊢; omega)
    refine ⟨cur', h1, ?_⟩
    rw [h2, Array.toList_setIfInBounds, List.set_eq_take_append_cons_drop, if_pos ho, List.length_cons]
    have e1 : (cur.toList.take o ++ v :: cur.toList.drop (o + 1)).take (o + 1) = cur.toList.take o ++ [v] := by
      rw [List.take_append, List.length_take, Nat.min_eq_left (by omega), List.take_take, Nat.min_eq_right (by omega), show o + 1 - o = 1 by omega]
      rfl
    have e2 : (cur.toList.take o ++ v :: cur.toList.drop (o + 1)).drop (o + 1 + r.length) = cur.toList.drop (o + (r.length + 1)) := by
      rw [List.drop_append, List.length_take, Nat.min_eq_left (by omega), List.drop_of_length_le (by rw [List.length_take]; omega), List.nil_append, show o + 1 + r.length - o = r.length + 1 by omega, List.drop_succ_cons, List.drop_drop, show o + 1 + r.length = o + (r.length + 1) by omega]
    rw [e1, e2]
    simp
theorem setCells_below {B : Nat} (b : Nat) : ∀ (vs : List Value) (o : Nat) (w : World), B ≤ b → Go.RowKit.Below B w (w.setCells b o vs)
  | [], _, w, h => Go.RowKit.Below.refl _ w
  | v :: r, o, w, h => by
    have h1 : Go.RowKit.Below B w (w.setCell ⟨b, o, none⟩ v) := ⟨rfl, rfl, rfl, by simp [World.setCell], fun k hk => by
      simp only [World.setCell, Array.getElem?_modify]
      rw [if_neg (by omega)]⟩
    exact h1.trans (setCells_below b r (o + 1) _ h)
theorem setCells_size (b : Nat) : ∀ (vs : List Value) (o : Nat) (w : World), (w.setCells b o vs).heap.size = w.heap.size
  | [], _, w => rfl
  | v :: r, o, w => by
    rw [show w.setCells b o (v :: r) = (w.setCell ⟨b, o, none⟩ v).setCells b (o + 1) r from rfl, setCells_size b r (o + 1)]
    simp [World.setCell]
/-- A row whose block is known. -/
theorem rMid_of {w W : World} {g cap : Nat} {cur : Array Value} {K : List Int} (hg : W.heap[g]? = some (.cells cur 3 (0, 0))) (hgw : w.heap.size ≤ g) (hb : Go.RowKit.Below w.heap.size w W) (hcm : cap ≤ maxLen) (hcs : cur.size = cap) (hK : K.length ≤ cap) (ht : cur.toList.take K.length = K.map (Value.int .i64)) : RMid numTy w W (.slice (some ⟨g, 0, none⟩) K.length cap) K := by
  refine ⟨⟨flat_length numTy_ok K, .inr ⟨g, cap, cur, rfl, Nat.zero_le _, hg, hK, hcm, ?_, ?_⟩⟩, fun b e => by cases e; exact hgw, hb⟩
  · rw [show numTy.n = 1 from rfl, Nat.mul_one, hcs]
  · rw [show numTy.n = 1 from rfl, Nat.mul_one, num_flat, ht]
theorem ins_len {L : List Int} {i : Nat} (x : Int) (hi : i ≤ L.length) : (L.take i ++ x :: L.drop i).length = L.length + 1 := by
  rw [List.length_append, List.length_take, List.length_cons, List.length_drop]; omega
theorem zeroI_size (k : Nat) : (Builtin.zeroCells (Value.int .i64 0).cells k).size = k := by
  simp only [Builtin.zeroCells, Array.size_map, Array.size_range]
  show k * 1 = k
  omega
theorem zeroI_len (k : Nat) : (Builtin.zeroCells (Value.int .i64 0).cells k).toList.length = k := by rw [Array.length_toList]; exact zeroI_size k
/-- A number put into a made row: the row and the number's box may lie in any order. -/
theorem insertN_any {w wr : World} {v : Value} {L : List Int} {i vb : Nat} (x : Int) (h : RMid numTy w wr v L) (hL : L.length ≤ 1000000) (hi : i ≤ L.length) (hv : own wr vb #[.int .i64 x] 3) (hne : v.ownBlock ≠ some vb) :
    Calls Try.prog 35 #[v, .int .i64 (i : Int), .slice (some ⟨vb, 0, none⟩) 1 1] wr (CutN w (L.take i ++ x :: L.drop i)) := by
  have hlen := ins_len x hi
  have hbw := h.below
  have hvs : ∀ j u, [Value.int .i64 x][j]? = some u → wr.cell? ⟨vb, 0 + j, none⟩ = some u := fun j u hj => by
    rw [Nat.zero_add, hv.cell]
    cases j with
    | zero => simpa using hj
    | succ j => simp at hj
  have h1v : ∀ u ∈ [Value.int .i64 x], u.oneCell' = true := fun u hu => by simp at hu; subst hu; rfl
  have hmx : (4611686018427387904 : Nat) ≤ 9223372036854775807 := by decide
  have hMx : maxLen ≤ 9223372036854775807 := by decide
  rcases h.open with ⟨rfl, rfl⟩ | ⟨g, cap, cur, rfl, hgw, hlt, hg, hnc, hcm, hcs, ht⟩
  · have hi0 : i = 0 := by simpa using hi
    subst hi0
    refine (Any2.slices_Insert_int_end_grow Try.insertI none 0 0 vb 0 1 1 [] [.int .i64 x] wr (by omega) (Nat.le_refl _) (by omega) (by decide) rfl rfl (fun _ => rfl) (fun a e => by cases e) hvs h1v).mono ?_
    rintro e w' ⟨rfl, rfl⟩
    show CutN w ([] ++ x :: []) (.returned (.slice (some ⟨wr.heap.size, 0, none⟩) (0 + 1) (grownCap wr (0 + 1) 0 3))) (wr.drew.alloc (.cells (([] ++ [Value.int .i64 x]).toArray ++ Builtin.zeroCells (Value.int .i64 0).cells (grownCap wr (0 + 1) 0 3 - (0 + 1))) 3))
    have hge : 0 + 1 ≤ grownCap wr (0 + 1) 0 3 := grownCap_ge _ _ _ _
    have hle : grownCap wr (0 + 1) 0 3 ≤ maxLen := grownCap_le_maxLen _ _ _ _ (by decide)
    generalize grownCap wr (0 + 1) 0 3 = G at *
    refine ⟨_, _, rfl, rMid_of (heap_alloc_new wr.drew _) hbw.size (hbw.drew.alloc (by show w.heap.size ≤ wr.heap.size; exact hbw.size) _) hle ?_ ?_ ?_⟩
    · rw [Array.size_append, zeroI_size]
      simp
      omega
    · simpa using hge
    · simp
  · have hneg : vb ≠ g := fun e => hne (by rw [e]; rfl)
    have hnl : cur.toList.length = cap := by simpa using hcs
    have hcs' : ∀ j u, (L.map (Value.int .i64))[j]? = some u → wr.cell? ⟨g, 0 + j, none⟩ = some u := fun j u hj => by
      rw [Nat.zero_add, Lib.cell_of_heap hg, ← Array.getElem?_toList]
      rw [← ht, List.getElem?_take] at hj
      split at hj
      · exact hj
      · cases hj
    have h1c : ∀ u ∈ L.map (Value.int .i64), u.oneCell' = true := fun u hu => by
      obtain ⟨y, _, rfl⟩ := List.mem_map.1 hu
      rfl
    have hsome : ∀ j, j < cap → (wr.cell? ⟨g, 0 + j, none⟩).isSome = true := fun j hj => by
      rw [Nat.zero_add, Lib.cell_of_heap hg, Array.getElem?_eq_getElem (by omega)]
      rfl
    have hfz : ∀ j, wr.frozen? ⟨g, j, none⟩ = false := Lib.frozen_of_heap hg
    have hsplit : cur.toList = L.map (Value.int .i64) ++ cur.toList.drop L.length := by rw [← ht, List.take_append_drop]
    rcases Nat.lt_or_ge L.length cap with hroom | hfull
    · rcases Nat.eq_or_lt_of_le hi with hend | hmid
      · -- at the end, with room
        subst hend
        refine (Any2.slices_Insert_int_end_room Try.insertI g 0 L.length cap vb 0 1 1 [.int .i64 x] wr (by omega) (by omega) (by omega) rfl (fun j hj => by have := hsome (L.length + j) (by omega); rwa [← Nat.add_assoc] at this) (fun j hj => hfz _) hvs h1v).mono ?_
        rintro e w' ⟨rfl, rfl⟩
        obtain ⟨cur', k1, k2⟩ := setCells_list (w := wr) [Value.int .i64 x] L.length wr cur hg (by simp; omega)
        rw [Nat.zero_add]
        refine ⟨some ⟨g, 0, none⟩, cap, by rw [hlen], rMid_of k1 hgw (hbw.trans (setCells_below g _ _ _ (by omega))) hcm ?_ (by omega) ?_⟩
        · rw [← Array.length_toList, k2, List.length_append, List.length_append, List.length_take, List.length_drop, hnl]; simp; omega
        · rw [k2, hlen, ht, List.take_length, List.drop_length]
          rw [List.take_left' (by simp)]
          simp
      · -- in place
        have hshA : wr.shape? vb = some (3, 1) := by unfold World.shape?; rw [show wr.heap[vb]? = _ from hv]; rfl
        have hshB : wr.shape? g = some (3, cap) := by unfold World.shape?; rw [hg]; simp [hcs]
        refine (Any2.slices_Insert_int_shift Try.insertI g 0 L.length cap i vb 0 1 1 (L.map (Value.int .i64)) [.int .i64 x] wr hmid (by omega) (by omega) (by omega) hneg (by simp) rfl hcs' (fun j hj => hsome j (by omega)) (fun j hj => hfz _) hvs h1c h1v 3 3 1 cap hshA hshB (by omega) (hv.frozen 0) (hv.frozen 1)).mono ?_
        rintro e w' ⟨rfl, rfl⟩
        obtain ⟨cur1, k1, k2⟩ := setCells_list (w := wr.drew) ((L.map (Value.int .i64)).drop i) (0 + (i + 1)) wr.drew cur hg (by simp; omega)
        have k2l : cur1.toList.length = cap := by rw [k2, List.length_append, List.length_append, List.length_take, List.length_drop, List.length_drop, hnl]; simp; omega
        obtain ⟨cur2, k3, k4⟩ := setCells_list (w := wr.drew) [Value.int .i64 x] (0 + i) _ cur1 k1 (by rw [← Array.length_toList, k2l]; simp; omega)
        refine ⟨some ⟨g, 0, none⟩, cap, by rw [hlen], rMid_of k3 hgw (hbw.drew.trans ((setCells_below g _ _ _ (by omega)).trans (setCells_below g _ _ _ (by omega)))) hcm ?_ (by omega) ?_⟩
        · rw [← Array.length_toList, k4, List.length_append, List.length_append, List.length_take, List.length_drop, k2l]; simp; omega
        · rw [k4, hlen, Nat.zero_add]
          have a1 : cur1.toList.take i = (L.take i).map (Value.int .i64) := by
            rw [k2, Nat.zero_add, List.take_append_of_le_length (by simp; omega), List.take_append_of_le_length (by simp; omega), List.take_take, Nat.min_eq_left (by omega), hsplit, List.take_append_of_le_length (by simp; omega), List.map_take]
          have a2 : cur1.toList.drop (i + 1) = (L.drop i).map (Value.int .i64) ++ cur.toList.drop (L.length + 1) := by
            rw [k2, Nat.zero_add, List.append_assoc, List.drop_left' (by simp; omega), List.map_drop, List.length_drop, List.length_map, show i + 1 + (L.length - i) = L.length + 1 by omega]
          rw [a1, show i + [Value.int .i64 x].length = i + 1 from rfl, a2, List.append_assoc, ← List.append_assoc [Value.int .i64 x], ← List.append_assoc]
          rw [List.take_left' (by simp; omega)]
          simp
    · have hcl : L.length = cap := by omega
      have hge : L.length + 1 ≤ grownCap wr (L.length + 1) cap 3 := grownCap_ge _ _ _ _
      have hml : (1000001 : Nat) ≤ maxLen := by decide
      have hle : grownCap wr (L.length + 1) cap 3 ≤ maxLen := grownCap_le_maxLen _ _ _ _ (by omega)
      rcases Nat.eq_or_lt_of_le hi with hend | hmid
      · subst hend
        refine (Any2.slices_Insert_int_end_grow Try.insertI (some ⟨g, 0, none⟩) L.length cap vb 0 1 1 (L.map (Value.int .i64)) [.int .i64 x] wr (by omega) (by omega) (by omega) (by omega) (by simp) rfl (fun e => by cases e) (fun a e j u hj => by cases e; rw [Go.WideShapes.add_plain]; exact hcs' j u hj) hvs h1v).mono ?_
        rintro e w' ⟨rfl, rfl⟩
        show CutN w (L.take L.length ++ x :: L.drop L.length) (.returned (.slice (some ⟨wr.heap.size, 0, none⟩) (L.length + 1) (grownCap wr (L.length + 1) cap 3))) (wr.drew.alloc (.cells ((L.map (Value.int .i64) ++ [Value.int .i64 x]).toArray ++ Builtin.zeroCells (Value.int .i64 0).cells (grownCap wr (L.length + 1) cap 3 - (L.length + 1))) 3))
        generalize grownCap wr (L.length + 1) cap 3 = G at *
        refine ⟨some ⟨wr.heap.size, 0, none⟩, G, by rw [hlen], rMid_of (heap_alloc_new wr.drew _) hbw.size (hbw.drew.alloc (by show w.heap.size ≤ wr.heap.size; exact hbw.size) _) hle ?_ (by rw [hlen]; exact hge) ?_⟩
        · rw [Array.size_append, zeroI_size]
          simp
          omega
        · rw [hlen, Array.toList_append, List.take_left' (by simp), List.take_length, List.drop_length]
          simp
      · refine (Any2.slices_Insert_int_grow Try.insertI g 0 L.length cap i vb 0 1 1 (L.map (Value.int .i64)) [.int .i64 x] wr hmid (by omega) (by omega) (by omega) (by omega) (by simp) rfl hcs' hvs h1c h1v).mono ?_
        rintro e w' ⟨rfl, rfl⟩
        show CutN w (L.take i ++ x :: L.drop i) (.returned (.slice (some ⟨wr.heap.size, 0, none⟩) (L.length + 1) (grownCap wr (L.length + 1) cap 3))) ((((wr.alloc (.cells (((L.map (Value.int .i64)).take i).toArray ++ Builtin.zeroCells (Value.int .i64 0).cells (L.length + 1 - i) ++ Builtin.zeroCells (Value.int .i64 0).cells (grownCap wr (L.length + 1) cap 3 - (L.length + 1))) 3)).drew.setCells wr.heap.size i [Value.int .i64 x]).drew).setCells wr.heap.size (i + 1) ((L.map (Value.int .i64)).drop i))
        generalize grownCap wr (L.length + 1) cap 3 = G at *
        obtain ⟨C0, hC0⟩ : ∃ C0, (((L.map (Value.int .i64)).take i).toArray ++ Builtin.zeroCells (Value.int .i64 0).cells (L.length + 1 - i) ++ Builtin.zeroCells (Value.int .i64 0).cells (G - (L.length + 1))) = C0 := ⟨_, rfl⟩
        have hC0s : C0.size = G := by rw [← hC0, Array.size_append, Array.size_append, zeroI_size, zeroI_size]; simp; omega
        have hC0t : C0.toList.take i = (L.take i).map (Value.int .i64) := by
          rw [← hC0, Array.toList_append, Array.toList_append, List.append_assoc, List.take_left' (by simp; omega), List.map_take]
        have hCl : C0.toList.length = G := by simpa using hC0s
        rw [hC0]
        have k0 : (wr.alloc (.cells C0 3)).drew.heap[wr.heap.size]? = some (.cells C0 3 (0, 0)) := heap_alloc_new wr _
        obtain ⟨cur1, k1, k2⟩ := setCells_list (w := wr) [Value.int .i64 x] i _ C0 k0 (by rw [hC0s]; simp; omega)
        have k2l : cur1.toList.length = G := by rw [k2, List.length_append, List.length_append, List.length_take, List.length_drop, hCl]; simp; omega
        obtain ⟨cur2, k3, k4⟩ := setCells_list (w := wr) ((L.map (Value.int .i64)).drop i) (i + 1) (((wr.alloc (.cells C0 3)).drew.setCells wr.heap.size i [Value.int .i64 x]).drew) cur1 k1 (by rw [← Array.length_toList, k2l]; simp; omega)
        have b0 : Go.RowKit.Below w.heap.size w (wr.alloc (.cells C0 3)).drew := (hbw.alloc hbw.size _).drew
        refine ⟨some ⟨wr.heap.size, 0, none⟩, G, by rw [hlen], rMid_of k3 hbw.size ((b0.trans (setCells_below _ _ _ _ hbw.size)).drew.trans (setCells_below _ _ _ _ hbw.size)) hle ?_ (by rw [hlen]; exact hge) ?_⟩
        · rw [← Array.length_toList, k4, List.length_append, List.length_append, List.length_take, List.length_drop, List.length_drop, List.length_map, k2l]; omega
        · rw [k4, hlen]
          have a1 : cur1.toList.take (i + 1) = (L.take i).map (Value.int .i64) ++ [Value.int .i64 x] := by
            rw [k2, hC0t, List.take_left' (by simp; omega)]
          rw [a1, List.take_left' (by simp; omega)]
          simp
end Go.Proofs.Ytcjhiegiccekpaa
