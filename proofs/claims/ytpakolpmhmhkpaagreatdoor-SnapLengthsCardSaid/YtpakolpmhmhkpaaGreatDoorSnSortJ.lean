import Derived.Test.YtpakolpmhmhkpaaGreatDoorSnSegJ
import Derived.Test.YtpakolpmhmhkpaaGreatDoorWlSortLayJ
/-
  LAYER 4 (snap): the snapshots' files of a disk, sorted by their falling Indexes: slices.SortFunc (written by tools/gen4_files.py out of XWlSort).
-/
namespace Go.Proofs.YtpakolpmhmhkpaaGreatDoor.Sn
open Go.RowKit Go.Maps Go.Shelf
set_option linter.unusedVariables false
set_option maxRecDepth 100000

/-- Draws and new blocks alone. -/
def Grew (w w' : World) : Prop := ∃ k os, w' = Sort.grow (w.drewN k) os
theorem Grew.refl (w : World) : Grew w w := ⟨0, #[], by rw [Sort.grow_empty]; rfl⟩
theorem Grew.trans {a b c : World} (h : Grew a b) (k : Grew b c) : Grew a c := by
  obtain ⟨n, os, rfl⟩ := h
  obtain ⟨m, os', rfl⟩ := k
  refine ⟨n + m, os ++ os', ?_⟩
  rw [← Sort.grow_grow]
  show Sort.grow (Sort.grow ((a.drewN n).drewN m) os) os' = _
  rw [World.drewN_drewN]
theorem Grew.below {w w' : World} (h : Grew w w') : Below w.heap.size w w' := by
  obtain ⟨k, os, rfl⟩ := h
  exact below_ahead w k os
theorem grew_bytes (w : World) (e : TypeId) (s : ByteArray) : Grew w (Lib.bytesWorld w e s) := by
  obtain ⟨o, ho⟩ : ∃ o, (Lib.bytesWorld w e s).heap[w.heap.size]? = some o := ⟨_, Lib.bytesWorld_at_new w e s⟩
  have hh : (Lib.bytesWorld w e s).heap = w.heap ++ #[o] := by
    apply Array.ext_getElem?
    intro j
    rcases Nat.lt_trichotomy j w.heap.size with h | h | h
    · rw [Lib.bytesWorld_at_old w e s j h, Array.getElem?_append_left h]
    · subst h
      rw [ho, Array.getElem?_append_right (Nat.le_refl _), Nat.sub_self]; rfl
    · rw [Array.getElem?_eq_none (by rw [Lib.bytesWorld_size]; omega), Array.getElem?_eq_none (by rw [Array.size_append]; show w.heap.size + 1 ≤ j; omega)]
  refine ⟨1, #[o], ?_⟩
  have h1 : Lib.bytesWorld w e s = { Lib.bytesWorld w e s with heap := (Lib.bytesWorld w e s).heap } := rfl
  rw [h1, hh]
  rfl

/-! ### the numbers of two segments, compared -/
theorem seg_atoi {l : List UInt8} (h : isSeg l = true) : ∃ c r v, l = c :: r ∧ Lib.atoiAll r = .ok v ∧ 1 ≤ v ∧ v ≤ 999999999999999999 ∧ l = segN v ∧ segV l = v.toNat := by
  have h0 : segV l ≠ 0 := by simpa [isSeg] using h
  cases l with
  | nil => exact absurd rfl h0
  | cons c r =>
    have hs := segV_cons c r
    rw [hs] at h0
    cases ha : Lib.atoiAll r with
    | ok v =>
      rw [ha] at h0 hs
      simp only at h0 hs
      by_cases hc : 1 ≤ v ∧ v ≤ 999999999999999999 ∧ c :: r = segN v
      · rw [if_pos hc] at hs; exact ⟨c, r, v, rfl, ha, hc.1, hc.2.1, hc.2.2, hs⟩
      · rw [if_neg hc] at h0; exact absurd rfl h0
    | _ => rw [ha] at h0; exact absurd rfl h0
set_option maxHeartbeats 2000000 in
theorem segName_grew (n : Int) (w : World) {B : Nat} (hg : Glob w B) (h : I64 n) : Calls Tryz.prog 62 #[.int .i64 n] w fun e w' => e = .returned (.string (mk (segN n))) ∧ Grew w w' := by
  have hi : Calls Tryz.prog 91 #[.int .i64 n] w fun e w' => e = .returned (.string (mk (Lib.itoa n))) ∧ Grew w w' := Any.strconv_Itoa Tryz.itoaA n h.1 h.2 w hg.pow
  have HI := hid hi
  have he : (ByteArray.mk #[112]) ++ mk (Lib.itoa n) = mk (segN n) := mk_append [112] (Lib.itoa n)
  have hd : (mk (Lib.itoa n)).size ≤ 21 := by rw [mk_size]; exact Lib.itoa_length_le n h.1 h.2
  clear h hg hi
  generalize mk (segN n) = r at *
  generalize mk (Lib.itoa n) = d at *
  go_enter Tryz.func62, Tryz.ntmps62
  go_wp2_with (go_at_call 91; (with_reducible refine HI.out.mono ?_); rintro e w1 ⟨rfl, hb⟩)
  go_ret
  exact ⟨rfl, hb⟩
set_option maxHeartbeats 2000000 in
theorem segNum_grew (l : List UInt8) (hl : isSeg l = true) (w : World) {B : Nat} (hg : Glob w B) (hB : B ≤ w.heap.size) : Calls Tryz.prog 71 #[.string (mk l)] w fun e w' => e = .returned (.int .i64 (segV l : Int)) ∧ Grew w w' := by
  obtain ⟨c, r, v, rfl, ha, h1, h2, h3, h4⟩ := seg_atoi hl
  have hz : (mk (c :: r)).size = r.length + 1 := by rw [mk_size]; rfl
  have hr : r.length ≤ 21 := by
    have := congrArg List.length h3
    have h5 := Lib.itoa_length_le v (by omega) (by omega)
    simp only [segN, List.length_cons] at this
    omega
  have hq : ((mk (c :: r)).toList == []) = false := by rw [Lib.toList_data]; rfl
  have hq1 : (mk (c :: r)).toList ≠ [] := by rw [Lib.toList_data]; simp [mk]
  have l1 := fun wx => slice_l (s := mk (c :: r)) (lo := 1) (l := r) (by omega) (by omega) rfl wx
  have hA : Calls Tryz.prog 105 #[.string (mk r)] w fun e w' => e = .returned (.tuple #[.int .i64 v, .nilIface]) ∧ Grew w w' := (Any.strconv_Atoi_ok Tryz.atoiA (mk r) (by rw [mk_size]; omega) v ha w).mono fun e w' ⟨he, hw⟩ => ⟨he, by
    rcases hw with rfl | ⟨t, rfl⟩
    · exact Grew.refl _
    · exact grew_bytes w _ t⟩
  have HA := hid hA
  have HS := hid (fun wx (hb : Grew w wx) => segName_grew v wx (hg.below hb.below hB) ⟨by omega, by omega⟩)
  rw [← h3] at HS
  have hv : ((segV (c :: r) : Nat) : Int) = v := by omega
  rw [hv]
  clear hA ha h3 h4 hv hg hl
  generalize mk (c :: r) = s at *
  generalize mk r = rb at *
  go_enter Tryz.func71, Tryz.ntmps71
  go_wp2_with (first | (go_at_call 105; (with_reducible refine HA.out.mono ?_); rintro e w1 ⟨rfl, hb⟩) | (go_at_call 62; (with_reducible refine (HS.out _ hb).mono ?_); rintro e w2 ⟨rfl, hb2⟩))
  go_ret
  exact ⟨rfl, hb.trans hb2⟩
def cmpI (x y : Int) : Int := if x < y then -1 else if y < x then 1 else 0
theorem cmpInt_any (x y : Int) (w : World) : Calls Tryz.prog 70 #[.int .i64 x, .int .i64 y] w fun e w' => e = .returned (.int .i64 (cmpI x y)) ∧ w = w' := by
  unfold cmpI
  by_cases h1 : x < y
  · rw [if_pos h1]
    go_enter Tryz.func70, Tryz.ntmps70
    go_wp2
    go_ret
    exact ⟨rfl, rfl⟩
  · rw [if_neg h1]
    by_cases h2 : y < x
    · rw [if_pos h2]
      go_enter Tryz.func70, Tryz.ntmps70
      go_wp2
      go_ret
      exact ⟨rfl, rfl⟩
    · rw [if_neg h2]
      go_enter Tryz.func70, Tryz.ntmps70
      go_wp2
      go_ret
      exact ⟨rfl, rfl⟩
def cmpSeg (a b : List UInt8) : Int := cmpI (segV b : Int) (segV a : Int)
theorem byNum_grew (a b : List UInt8) (ha : isSeg a = true) (hb : isSeg b = true) (w : World) {B : Nat} (hg : Glob w B) (hB : B ≤ w.heap.size) :
    Calls Tryz.prog 43 #[.string (mk a), .string (mk b)] w fun e w' => e = .returned (.int .i64 (cmpSeg a b)) ∧ Grew w w' := by
  have H1 := hid (segNum_grew b hb w hg hB)
  have H2 := hid (fun wx (h : Grew w wx) => segNum_grew a ha wx (hg.below h.below hB) (by have := h.below.size; omega))
  have H3 := hid (fun wx => cmpInt_any (segV b : Int) (segV a : Int) wx)
  unfold cmpSeg
  clear ha hb hg
  generalize cmpI (segV b : Int) (segV a : Int) = r at *
  generalize (segV a : Int) = x at *
  generalize (segV b : Int) = y at *
  generalize mk a = sa at *
  generalize mk b = sb at *
  go_enter Tryz.func43, Tryz.ntmps43
  go_wp2_with (first
    | (go_at_call 71; first | ((with_reducible refine H1.out.mono ?_); rintro e w1 ⟨rfl, hb1⟩) | ((with_reducible refine (H2.out _ hb1).mono ?_); rintro e w2 ⟨rfl, hb2⟩))
    | (go_at_call 70; (with_reducible refine (H3.out _).mono ?_); rintro e w3 ⟨rfl, rfl⟩))
  go_ret
  exact ⟨rfl, hb1.trans hb2⟩

/-! ### the row, sorted -/
theorem heap_sorted {α : Type} [Inhabited α] (enc : α → Value) (w : World) (g m : Nat) (d : Array α) (os : Array Obj) (b : Nat) (hb : b < w.heap.size) (hne : b ≠ g) : (Sort.grow (Sort.putRow enc (Sort.ahead w m) g 0 d) os).heap[b]? = w.heap[b]? := by
  have hz : (Sort.putRow enc (Sort.ahead w m) g 0 d).heap.size = w.heap.size := Sort.size_putRow enc (Sort.ahead w m) g 0 d
  show ((Sort.putRow enc (Sort.ahead w m) g 0 d).heap ++ os)[b]? = _
  rw [Array.getElem?_append_left (by omega)]
  show ((w.heap.modify g _)[b]?) = _
  rw [Array.getElem?_modify, if_neg (fun e => hne e.symm)]
theorem chg_sorted {α : Type} [Inhabited α] (enc : α → Value) (w : World) (g m : Nat) (d : Array α) (os : Array Obj) : Chg (fun b => b = g) w (Sort.grow (Sort.putRow enc (Sort.ahead w m) g 0 d) os) :=
  ⟨rfl, rfl, rfl, by
    have hz : (Sort.putRow enc (Sort.ahead w m) g 0 d).heap.size = w.heap.size := Sort.size_putRow enc (Sort.ahead w m) g 0 d
    show w.heap.size ≤ ((Sort.putRow enc (Sort.ahead w m) g 0 d).heap ++ os).size
    rw [Array.size_append]; omega, fun b hb hne => heap_sorted enc w g m d os b hb hne⟩
theorem row_sorted {α : Type} [Inhabited α] (enc : α → Value) {w : World} {B : Nat} {T : TypeId} {g cap n : Nat} {xs : List Value} (h : w.ownsRow B T 1 (.slice (some ⟨g, 0, none⟩) n cap) n xs) (d : Array α) (hd : d.size = n) (m : Nat) (os : Array Obj) :
    (Sort.grow (Sort.putRow enc (Sort.ahead w m) g 0 d) os).ownsRow B T 1 (.slice (some ⟨g, 0, none⟩) n cap) n (d.toList.map enc) := by
  rcases h.2 with ⟨hv, _⟩ | ⟨g', cap', cur, hv, hB, hg, hnc, hcm, hcs, htake⟩
  · cases hv
  · cases hv
    have hz : (Sort.putRow enc (Sort.ahead w m) g 0 d).heap.size = w.heap.size := Sort.size_putRow enc (Sort.ahead w m) g 0 d
    have hlt : g < w.heap.size := (Array.getElem?_eq_some_iff.1 hg).1
    refine ⟨by simp [hd], .inr ⟨g, cap, Sort.putCells enc 0 d cur, rfl, hB, ?_, hnc, hcm, by simpa [Sort.putCells] using hcs, ?_⟩⟩
    · show ((Sort.putRow enc (Sort.ahead w m) g 0 d).heap ++ os)[g]? = _
      rw [Array.getElem?_append_left (by omega)]
      show ((w.heap.modify g _)[g]?) = _
      rw [Array.getElem?_modify, if_pos rfl, hg]
      rfl
    · have hn : n ≤ cur.size := by omega
      apply List.ext_getElem
      · simp [Sort.putCells, hd]; omega
      · intro i h1 h2
        have hi : i < d.size := by simpa using h2
        simp only [Sort.putCells, List.getElem_take, Array.getElem_toList, Array.getElem_mapIdx, List.getElem_map]
        rw [if_pos ⟨Nat.zero_le _, by omega⟩, Nat.sub_zero, getElem!_pos d i hi]

def segLe (a b : List UInt8) : Bool := decide (segV b ≤ segV a)
def sortSeg (l : List (List UInt8)) : List (List UInt8) := l.mergeSort segLe
theorem seg_inj {a b : List UInt8} (ha : isSeg a = true) (hb : isSeg b = true) (h : segV a = segV b) : a = b := by
  obtain ⟨_, _, v, _, _, h1, _, h3, h4⟩ := seg_atoi ha
  obtain ⟨_, _, u, _, _, k1, _, k3, k4⟩ := seg_atoi hb
  have : v = u := by omega
  rw [h3, k3, this]
theorem cmpSeg_neg (a b : List UInt8) : cmpSeg a b < 0 ↔ segV b < segV a := by
  unfold cmpSeg cmpI
  split
  · exact ⟨fun _ => by omega, fun _ => by omega⟩
  · split
    · exact ⟨fun h => by omega, fun h => by omega⟩
    · exact ⟨fun h => by omega, fun h => by omega⟩
abbrev SegT := { x : List UInt8 // isSeg x = true }
def cmpT (x y : SegT) : Int := cmpSeg x.1 y.1
theorem ltT (x y : SegT) : ltOf cmpT x y = decide (segV y.1 < segV x.1) := by
  unfold ltOf
  rw [Bool.eq_iff_iff, decide_eq_true_iff, decide_eq_true_iff]
  exact cmpSeg_neg x.1 y.1
theorem swoT : Sort.SWO (ltOf cmpT) := by
  refine ⟨fun x => ?_, fun x y z h1 h2 => ?_, fun x y z h1 h2 => ?_⟩
  · rw [ltT]; simp
  · rw [ltT, decide_eq_true_iff] at *; omega
  · rw [ltT, decide_eq_false_iff_not] at *; omega
def encT (x : SegT) : Value := .string (mk x.1)
theorem sort_map (d : List SegT) : (d.mergeSort fun x y => !(ltOf cmpT) y x).map Subtype.val = sortSeg (d.map Subtype.val) := by
  unfold sortSeg
  refine List.map_mergeSort (fun a _ b _ => ?_)
  rw [ltT]
  unfold segLe
  rw [Bool.eq_iff_iff]
  simp
theorem sortFunc_any (v : Value) (l : List (List UInt8)) (hall : ∀ x ∈ l, isSeg x = true) (w : World) {B B0 : Nat} (hg : Glob w B0) (hB0 : B0 ≤ B) (hB : B ≤ w.heap.size) (h : NamesAt w B v l) (hl : l.length ≤ 1000) :
    Calls Tryz.prog 42 #[v, .func (.func 43) #[] #[]] w fun e w' => e = .returned (.tuple #[]) ∧ NamesAt w' B v (sortSeg l) ∧ Chg (fun b => v.ownBlock = some b) w w' := by
  by_cases hne : l = []
  · subst hne
    obtain ⟨ao, cap, rfl⟩ := names_slice h
    refine (AnyF.slices_SortFunc_none { Tryz.sortF with } ao cap _ w).mono ?_
    rintro e w' ⟨he, rfl⟩
    exact ⟨he, by simpa [sortSeg] using h, Chg.refl _ _⟩
  · have hpos := List.length_pos_iff.2 hne
    obtain ⟨g, cap, rfl, hgB, hgl, hnc, _⟩ := names_cell h (j := 0) hpos
    haveI : Inhabited SegT := ⟨⟨l[0], hall _ (List.getElem_mem hpos)⟩⟩
    obtain ⟨D, hD⟩ : ∃ D : List SegT, D.map Subtype.val = l := ⟨l.attach.map fun x => ⟨x.1, hall x.1 x.2⟩, by simp [List.map_map, Function.comp_def]⟩
    have hDl : D.length = l.length := by rw [← hD]; simp
    have hH : Sort.Holds encT w g 0 D.toArray := by
      intro j hj
      have hj' : j < D.length := by simpa using hj
      have hjl : j < l.length := by omega
      refine ⟨?_, names_frozen h _⟩
      rw [Nat.zero_add, names_at h hjl]
      have : l[j] = (D[j]'hj').1 := by
        have h1 : (D.map Subtype.val)[j]'(by simpa using hj') = l[j] := by simp only [hD]
        rw [← h1]; simp
      rw [this, getElem!_pos D.toArray j hj]
      rfl
    have hcmp : CmpLays1 Tryz.prog 43 #[] encT cmpT g 0 D.toArray.size w := fun m os dk _ x y =>
      byNum_grew x.1 y.1 x.2 y.2 _ (hg.chg (chg_sorted encT w g m dk os) (by omega) (fun b e => by omega)) (by have := (chg_sorted encT w g m dk os).size; show B0 ≤ (Sort.grow (Sort.putRow encT (Sort.ahead w m) g 0 dk) os).heap.size; omega)
    have hO : OneCell encT := by
      first | exact fun x => rfl | exact ⟨fun x => rfl⟩ | exact ⟨fun x => rfl, fun x => rfl⟩
    have hc := Any.slices_SortFunc_total Tryz.sortF encT hO cmpT swoT 43 #[] g 0 cap D.toArray w (enters_of Tryz.func43 (by kernel_rfl) rfl) hcmp hH hgl (by simp; omega) (fun x y h1 h2 => by
      rw [ltT, decide_eq_false_iff_not] at h1 h2
      exact Subtype.ext (seg_inj x.2 y.2 (by omega)))
    have hsz : D.toArray.size = l.length := by simpa using hDl
    rw [hsz] at hc
    refine hc.mono ?_
    rintro e w' ⟨he, n, os, rfl⟩
    have hr := row_sorted encT h (D.toArray.toList.mergeSort fun x y => !(ltOf cmpT) y x).toArray (by simp [hDl]) n os
    refine ⟨he, ?_, (chg_sorted encT w g n _ os).mono (fun b e => by rw [e]; rfl)⟩
    have hl2 : (sortSeg l).length = l.length := by simp [sortSeg]
    have hm := sort_map D
    unfold NamesAt
    rw [hl2]
    have he2 : (sortSeg l).map encStr = ((D.mergeSort fun x y => !(ltOf cmpT) y x).map encT) := by
      rw [← hD, ← hm, List.map_map]
      rfl
    rw [he2]
    exact hr
end Go.Proofs.YtpakolpmhmhkpaaGreatDoor.Sn

