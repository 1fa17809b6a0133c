import Derived.Test.YtbccikefccdekaaGreatDoorMq1J
import Derived.Test.YtbccikefccdekaaGreatDoorMq3J
import Derived.Lib.SliceRun
import Derived.Test.YtbccikefccdekaaGreatDoorProg
import Derived.Shelf.SlSortCmp.Whole1
import Derived.Shelf.SlSortCmp.NoneTotal
import Derived.Test.YtbccikefccdekaaGreatDoorMq2J
import Derived.Lib.AtoiTie
/-
  LAYER 4 (snap): slices.IndexFunc and slices.DeleteFunc, where names that are no snapshot's are struck (written by tools/gen4_files.py out of XWlSeg).
-/
namespace Go.Proofs.YtbccikefccdekaaGreatDoor.Sn
open Go.RowKit Go.Maps Go.Sort
set_option linter.unusedVariables false
set_option maxRecDepth 100000

theorem ownsRow_set {w : World} {B : Nat} {e : TypeId} {size : Nat} {v : Value} {n : Nat} {xs : List Value} (h : w.ownsRow B e size v n xs) {g : Nat} (hg : v.ownBlock = some g) {j : Nat} (hj : j < xs.length) (u : Value) :
    (w.setCell ⟨g, j, none⟩ u).ownsRow B e size v n (xs.set j u) := by
  obtain ⟨h1, h2⟩ := h
  refine ⟨by simpa using h1, ?_⟩
  rcases h2 with ⟨rfl, _⟩ | ⟨g', cap, cur, rfl, hB, hgc, hnc, hcm, hcs, htake⟩
  · cases hg
  · obtain rfl : g' = g := by simpa [Value.ownBlock] using hg
    refine .inr ⟨g', cap, cur.setIfInBounds j u, rfl, hB, ?_, hnc, hcm, by simpa using hcs, ?_⟩
    · simp [World.setCell, Array.getElem?_modify, hgc]
    · rw [Array.toList_setIfInBounds, List.take_set, htake]
def isSeg (x : List UInt8) : Bool := decide (segV x ≠ 0)
def FoundAt (w : World) (l : List (List UInt8)) (e : Ending) (w' : World) : Prop :=
  ((e = .returned (.int .i64 (-1)) ∧ ∀ x ∈ l, isSeg x = true) ∨ ∃ k, ∃ h : k < l.length, e = .returned (.int .i64 (k : Int)) ∧ isSeg (l[k]'h) = false ∧ (∀ j (hj : j < k), isSeg (l[j]'(by omega)) = true) ∧ ((k : Int) == -1) = false) ∧ Below w.heap.size w w'
def IdxRel (w : World) (l : List (List UInt8)) (u : Value) (wr : World) : Prop := ∃ k, k ≤ l.length ∧ u = .int .i64 (k : Int) ∧ (∀ j (hj : j < k) (hl : j < l.length), isSeg (l[j]'hl) = true) ∧ Below w.heap.size w wr
set_option maxHeartbeats 2000000 in
theorem indexFunc_any (v : Value) (l : List (List UInt8)) (w : World) {B B0 : Nat} (hg : Glob w B0) (hB0 : B0 ≤ w.heap.size) (h : NamesAt w B v l) (hs : ∀ x ∈ l, x.length ≤ 1000) (hl : l.length ≤ 1000) :
    Calls Tryz.prog 91 #[v, .func (.func 65) #[] #[]] w (FoundAt w l) := by
  have HG := hid hg
  have HN := hid h
  have HS := hid hs
  obtain ⟨ao, cap, rfl⟩ := names_slice h
  clear h hs hg
  go_enter Tryz.func91, Tryz.ntmps91
  go_wp2
  go_loopw [8] (IdxRel w l) (fun i _ => l.length - (intOf i).toNat)
  case atStart => exact ⟨0, Nat.zero_le _, rfl, fun j hj => by omega, Below.refl _ _⟩
  case round =>
    obtain ⟨k, hk, rfl, hall, hb⟩ := hrel
    have HA := hid hall
    clear hall
    by_cases hlt : k < l.length
    · obtain ⟨g, cap', hv, hgB, hglt, hnc, hcell⟩ := names_cell HN.out hlt
      simp only [Value.slice.injEq] at hv
      obtain ⟨rfl, _, rfl⟩ := hv
      have hc := (hb.cell (p := ⟨g, k, none⟩) hglt).trans hcell
      have hP := notSeg_any (mk l[k]) wr (HG.out.below hb hB0) (by have := hb.size; omega) (by rw [mk_size]; exact HS.out _ (List.getElem_mem hlt))
      rw [mk_data] at hP
      have hkI : (k : Int) < (l.length : Int) := by omega
      clear hcell
      by_cases hz : segV l[k] = 0
      · rw [show decide (segV l[k] = 0) = true by simpa using hz] at hP
        have HP := hid hP
        have hfin : ∀ wx, Below wr.heap.size wr wx → FoundAt w l (.returned (.int .i64 (k : Int))) wx := fun wx hx => ⟨.inr ⟨k, hlt, rfl, by simp [isSeg, hz], fun j hj => HA.out j hj (by omega), beq_eq_false_iff_ne.2 (by omega)⟩, hb.trans (hx.mono hb.size)⟩
        have HF := hid hfin
        clear hP hz hfin
        generalize mk l[k] = nb at *
        go_wp2_with (go_at_call 65; (with_reducible refine HP.out.mono ?_); rintro e w1 ⟨rfl, hb1⟩)
        go_ret
        exact HF.out _ hb1
      · rw [show decide (segV l[k] = 0) = false by simpa using hz] at hP
        have HP := hid hP
        have hfin : ∀ wx, Below wr.heap.size wr wx → IdxRel w l (.int .i64 ((k + 1 : Nat) : Int)) wx := fun wx hx => ⟨k + 1, hlt, rfl, fun j hj hl => by
          by_cases hjk : j < k
          · exact HA.out j hjk hl
          · obtain rfl : j = k := by omega
            simp [isSeg, hz], hb.trans (hx.mono hb.size)⟩
        have HF := hid hfin
        clear hP hz hfin
        generalize mk l[k] = nb at *
        go_wp2_with (go_at_call 65; (with_reducible refine HP.out.mono ?_); rintro e w1 ⟨rfl, hb1⟩)
        go_roundw
        case rel => exact HF.out _ hb1
        case measure => simp [intOf]; omega
    · obtain rfl : k = l.length := by omega
      have hfin : FoundAt w l (.returned (.int .i64 (-1))) wr := ⟨.inl ⟨rfl, fun x hx => by
        obtain ⟨j, hj, rfl⟩ := List.getElem_of_mem hx
        exact HA.out j hj hj⟩, hb⟩
      have HF := hid hfin
      clear hfin
      go_wp2
      go_ret
      exact HF.out

/-- The names, as far as the loop has come. -/
structure Kept (l : List (List UInt8)) (j i : Nat) (C : List (List UInt8)) : Prop where
  len : C.length = l.length
  low : C.take i = (l.take j).filter isSeg
  high : ∀ t, j ≤ t → C[t]? = l[t]?
  lt : i < j
theorem Kept.start {l : List (List UInt8)} {k : Nat} (hk : k < l.length) (h0 : isSeg (l[k]'hk) = false) (hall : ∀ j (hj : j < k), isSeg (l[j]'(by omega)) = true) : Kept l (k + 1) k l := by
  refine ⟨rfl, ?_, fun t _ => rfl, Nat.lt_succ_self _⟩
  rw [List.take_succ_eq_append_getElem hk, List.filter_append]
  have h1 : (l.take k).filter isSeg = l.take k := by
    rw [List.filter_eq_self]
    intro x hx
    obtain ⟨j, hj, rfl⟩ := List.getElem_of_mem hx
    rw [List.getElem_take]
    exact hall j (by rw [List.length_take] at hj; omega)
  rw [h1]; simp [h0]
theorem Kept.keep {l : List (List UInt8)} {j i : Nat} {C : List (List UInt8)} (h : Kept l j i C) (hj : j < l.length) (h1 : isSeg (l[j]'hj) = true) : Kept l (j + 1) (i + 1) (C.set i (l[j]'hj)) := by
  have hlt := h.lt
  have hlen := h.len
  refine ⟨by rw [List.length_set]; exact hlen, ?_, fun t ht => ?_, by omega⟩
  · rw [List.take_succ_eq_append_getElem hj, List.filter_append, ← h.low, List.take_succ_eq_append_getElem (by rw [List.length_set]; omega), List.take_set_of_le (Nat.le_refl i)]
    simp [h1]
  · rw [List.getElem?_set_ne (by omega)]; exact h.high t (by omega)
theorem Kept.skip {l : List (List UInt8)} {j i : Nat} {C : List (List UInt8)} (h : Kept l j i C) (hj : j < l.length) (h1 : isSeg (l[j]'hj) = false) : Kept l (j + 1) i C := by
  refine ⟨h.len, ?_, fun t ht => h.high t (by omega), by have := h.lt; omega⟩
  rw [List.take_succ_eq_append_getElem hj, List.filter_append, ← h.low]; simp [h1]
theorem Kept.get {l : List (List UInt8)} {j i : Nat} {C : List (List UInt8)} (h : Kept l j i C) (hj : j < l.length) : ∃ hc : j < C.length, C[j]'hc = l[j]'hj := by
  have hc : j < C.length := by rw [h.len]; exact hj
  refine ⟨hc, ?_⟩
  have := h.high j (Nat.le_refl _)
  rw [List.getElem?_eq_getElem hc, List.getElem?_eq_getElem hj] at this
  exact Option.some.inj this
theorem Kept.done {l : List (List UInt8)} {i : Nat} {C : List (List UInt8)} (h : Kept l l.length i C) : C.take i = l.filter isSeg := by rw [h.low, List.take_length]

section
variable {w w' : World} {B g n cap : Nat} {C : List (List UInt8)}
theorem names_frozen (h : NamesAt w B (.slice (some ⟨g, 0, none⟩) n cap) C) (j : Nat) : w.frozen? ⟨g, j, none⟩ = false := by
  rcases h.2 with ⟨hv, _⟩ | ⟨g', cap', cur, hv, _, hg, _⟩
  · cases hv
  · cases hv; exact Lib.frozen_of_heap hg j
theorem names_set (h : NamesAt w B (.slice (some ⟨g, 0, none⟩) n cap) C) {i : Nat} (hi : i < C.length) (x : List UInt8) : NamesAt (w.setCell ⟨g, i, none⟩ (.string (mk x))) B (.slice (some ⟨g, 0, none⟩) n cap) (C.set i x) := by
  have h1 := ownsRow_set h (g := g) rfl (j := i) (by simpa using hi) (.string (mk x))
  unfold NamesAt
  rw [List.length_set, List.map_set]
  exact h1
theorem names_same (h : NamesAt w B (.slice (some ⟨g, 0, none⟩) n cap) C) (hs : w'.heap[g]? = w.heap[g]?) : NamesAt w' B (.slice (some ⟨g, 0, none⟩) n cap) C := ownsRow_same h (fun b hb => by cases hb; exact hs)
theorem names_lt (h : NamesAt w B (.slice (some ⟨g, 0, none⟩) n cap) C) : B ≤ g ∧ g < w.heap.size := World.ownsRow.lt h g rfl
theorem names_len (h : NamesAt w B (.slice (some ⟨g, 0, none⟩) n cap) C) : C.length = n ∧ n ≤ cap := by
  rcases h.2 with ⟨hv, _⟩ | ⟨g', cap', cur, hv, _, hg, hnc, _⟩
  · cases hv
  · cases hv; exact ⟨rfl, hnc⟩
theorem names_at (h : NamesAt w B (.slice (some ⟨g, 0, none⟩) n cap) C) {i : Nat} (hi : i < C.length) : w.cell? ⟨g, i, none⟩ = some (.string (mk C[i])) := by
  obtain ⟨g2, cap2, hv, _, _, _, hc⟩ := names_cell h hi
  cases hv; exact hc
theorem names_cut (h : NamesAt w B (.slice (some ⟨g, 0, none⟩) n cap) C) {i : Nat} (hi : i ≤ n) : NamesAt w B (.slice (some ⟨g, 0, none⟩) i cap) (C.take i) := by
  have hl := names_len h
  rcases h.2 with ⟨hv, _⟩ | ⟨g', cap', cur, hv, hB, hg, hnc, hcm, hcs, htake⟩
  · cases hv
  · cases hv
    have hli : (C.take i).length = i := by rw [List.length_take]; omega
    refine ⟨by simp, .inr ⟨g, cap, cur, by rw [hli], hB, hg, by rw [hli]; omega, hcm, hcs, ?_⟩⟩
    rw [hli, List.map_take, ← htake, List.take_take]
    congr 1
    omega
theorem names_cells : ∀ (m o : Nat) (w : World) (C : List (List UInt8)), NamesAt w B (.slice (some ⟨g, 0, none⟩) n cap) C → o + m ≤ n → ∃ C', NamesAt (w.setCells g o (List.replicate m (.string ⟨#[]⟩))) B (.slice (some ⟨g, 0, none⟩) n cap) C' ∧ C'.take o = C.take o ∧ Chg (fun b => b = g) w (w.setCells g o (List.replicate m (.string ⟨#[]⟩)))
  | 0, o, w, C, h, _ => ⟨C, h, rfl, Chg.refl _ _⟩
  | m + 1, o, w, C, h, ho => by
    have hl := names_len h
    have h1 := names_set h (i := o) (by omega) []
    obtain ⟨C', h2, h3, h4⟩ := names_cells m (o + 1) _ _ h1 (by omega)
    refine ⟨C', h2, ?_, (Chg.setCell w ⟨g, o, none⟩ _).trans h4 (fun b e => .inl e)⟩
    have h5 := congrArg (List.take o) h3
    rw [List.take_take, List.take_take, Nat.min_eq_left (by omega), List.take_set_of_le (Nat.le_refl o)] at h5
    exact h5
end

def DelPost (w : World) (B : Nat) (v : Value) (l : List (List UInt8)) (e : Ending) (w' : World) : Prop :=
  ∃ v', e = .returned v' ∧ NamesAt w' B v' l ∧ Chg (fun b => v.ownBlock = some b) w w' ∧ (∀ b, v'.ownBlock = some b → v.ownBlock = some b)
def DelRel (w : World) (B g cap : Nat) (l : List (List UInt8)) (u5 u6 : Value) (wr : World) : Prop :=
  ∃ i j C, u5 = .int .i64 (i : Nat) ∧ u6 = .int .i64 (j : Nat) ∧ j ≤ l.length ∧ Kept l j i C ∧ NamesAt wr B (.slice (some ⟨g, 0, none⟩) l.length cap) C ∧ Chg (fun b => b = g) w wr
set_option maxHeartbeats 4000000 in
theorem deleteFunc_any (v : Value) (l : List (List UInt8)) (w : World) {B B0 : Nat} (hg : Glob w B0) (hB0 : B0 ≤ B) (hB : B ≤ w.heap.size) (h : NamesAt w B v l) (hs : ∀ x ∈ l, x.length ≤ 1000) (hl : l.length ≤ 1000) :
    Calls Tryz.prog 64 #[v, .func (.func 65) #[] #[]] w (DelPost w B v (l.filter isSeg)) := by
  have HI := hid (indexFunc_any v l w hg (by omega) h hs hl)
  have HG := hid hg
  have HN := hid h
  have HS := hid hs
  obtain ⟨ao, cap, rfl⟩ := names_slice h
  have hkeepAll : ∀ wx, Below w.heap.size w wx → (∀ x ∈ l, isSeg x = true) → DelPost w B (.slice ao l.length cap) (l.filter isSeg) (.returned (.slice ao l.length cap)) wx := fun wx hb hall => by
    refine ⟨_, rfl, ?_, Chg.of_below hb, fun b hb => hb⟩
    rw [List.filter_eq_self.2 hall]
    exact ownsRow_same HN.out (fun b hb' => hb.block b (World.ownsRow.lt HN.out b hb').2)
  have HAll := hid hkeepAll
  clear h hs hg hkeepAll
  go_enter Tryz.func64, Tryz.ntmps64
  go_wp2_with (go_at_call 91; (with_reducible refine HI.out.mono ?_); rintro e w1 ⟨hcase, hb1⟩; rcases hcase with ⟨rfl, hall⟩ | ⟨k, hk, rfl, hk0, hkall, hq⟩)
  · go_ret
    exact HAll.out _ hb1 hall
  · obtain ⟨g, cap', hv, hgB, hglt, hnc, -⟩ := names_cell HN.out hk
    simp only [Value.slice.injEq] at hv
    obtain ⟨rfl, _, rfl⟩ := hv
    have hst := Kept.start hk hk0 hkall
    have HSt := hid hst
    clear hst hk0 hkall
    go_loopw [5, 6] (DelRel w B g cap l) (fun _ j _ => l.length - (intOf j).toNat)
    case atStart => exact ⟨k, k + 1, l, rfl, by go_num, by omega, HSt.out, names_same HN.out (hb1.block g hglt), Chg.of_below hb1⟩
    case round =>
      obtain ⟨i, j, C, rfl, rfl, hj, hK, hNr, hc⟩ := hrel
      have hij := hK.lt
      have hCl := hK.len
      have hgr := (names_lt hNr).2
      have hgB0 : ∀ b, b = g → B0 ≤ b := fun b e => by omega
      by_cases hlt : j < l.length
      · obtain ⟨hcj, hCj⟩ := hK.get hlt
        have cj := names_at hNr hcj
        rw [hCj] at cj
        have hP := notSeg_any (mk l[j]) wr (HG.out.chg hc (by omega) hgB0) (by have := hc.size; omega) (by rw [mk_size]; exact HS.out _ (List.getElem_mem hlt))
        rw [mk_data] at hP
        have hjI : (j : Int) < (l.length : Int) := by omega
        have hiI : (i : Int) < (j : Int) := by omega
        have hci : i < C.length := by omega
        have hx : ∀ wx, Below wr.heap.size wr wx → wx.cell? ⟨g, i, none⟩ = some (.string (mk C[i])) ∧ wx.frozen? ⟨g, i, none⟩ = false ∧ NamesAt wx B (.slice (some ⟨g, 0, none⟩) l.length cap) C ∧ Chg (fun b => b = g) w wx := fun wx hb =>
          ⟨names_at (names_same hNr (hb.block g hgr)) hci, names_frozen (names_same hNr (hb.block g hgr)) i, names_same hNr (hb.block g hgr), hc.trans (T := fun _ => False) (Chg.of_below hb) (fun _ e => e.elim)⟩
        have HX := hid hx
        have HK := hid hK
        clear hx hK hNr hc hCj
        by_cases hz : segV l[j] = 0
        · rw [show decide (segV l[j] = 0) = true by simpa using hz] at hP
          have HP := hid hP
          have hfin : ∀ wx, Below wr.heap.size wr wx → DelRel w B g cap l (.int .i64 (i : Nat)) (.int .i64 ((j + 1 : Nat) : Int)) wx := fun wx hb => ⟨i, j + 1, C, rfl, rfl, hlt, HK.out.skip hlt (by simp [isSeg, hz]), (HX.out wx hb).2.2.1, (HX.out wx hb).2.2.2⟩
          have HF := hid hfin
          clear hP hz hfin
          generalize mk l[j] = nb at *
          go_wp2_with (go_at_call 65; (with_reducible refine HP.out.mono ?_); rintro e w2 ⟨rfl, hb2⟩)
          go_roundw
          case rel => exact HF.out _ hb2
          case measure => simp [intOf]; omega
        · rw [show decide (segV l[j] = 0) = false by simpa using hz] at hP
          have HP := hid hP
          have hfin : ∀ wx, Below wr.heap.size wr wx → DelRel w B g cap l (.int .i64 ((i + 1 : Nat) : Int)) (.int .i64 ((j + 1 : Nat) : Int)) (wx.setCell ⟨g, i, none⟩ (.string (mk l[j]))) := fun wx hb =>
            ⟨i + 1, j + 1, C.set i l[j], rfl, rfl, hlt, HK.out.keep hlt (by simp [isSeg, hz]), names_set (HX.out wx hb).2.2.1 hci _, (HX.out wx hb).2.2.2.trans (Chg.setCell wx ⟨g, i, none⟩ _) (fun b e => .inl e)⟩
          have HF := hid hfin
          clear hP hz hfin
          generalize mk l[j] = nb at *
          generalize mk C[i] = ob at *
          go_wp2_with (go_at_call 65; (with_reducible refine HP.out.mono ?_); rintro e w2 ⟨rfl, hb2⟩; obtain ⟨x0, x1, -, -⟩ := HX.out _ hb2)
          go_roundw
          case rel => exact HF.out _ hb2
          case measure => simp [intOf]; omega
      · obtain rfl : j = l.length := by omega
        have hdone := hK.done
        obtain ⟨C', h2, h3, h4⟩ := names_cells (l.length - i) i wr C hNr (by omega)
        have hn := names_cut h2 (i := i) (by omega)
        rw [h3, hdone] at hn
        have hcl : ∀ ty, (Builtin.clear_ #[46] ty #[.slice (some ⟨g, i, none⟩) (l.length - i) (cap - i)]).run Tryz.prog wr = .ok (.tuple #[]) (wr.setCells g i (List.replicate (l.length - i) (.string ⟨#[]⟩))) :=
          fun ty => Lib.run_clear_slice wr _ _ ty _ Tryz.underlying46 Tryz.zeroValue9 rfl rfl g i _ _ (by omega) (fun t ht => by rw [names_at hNr (i := i + t) (by omega)]; rfl) (fun t ht => names_frozen hNr _)
        have hfin : DelPost w B (.slice (some ⟨g, 0, none⟩) l.length cap) (l.filter isSeg) (.returned (.slice (some ⟨g, 0, none⟩) i cap)) (wr.setCells g i (List.replicate (l.length - i) (.string ⟨#[]⟩))) :=
          ⟨_, rfl, hn, (hc.trans h4 (fun b e => .inl e)).mono (fun b e => by rw [e]; rfl), fun b hb => hb⟩
        have HF := hid hfin
        have hiI : (i : Int) < (l.length : Int) := by omega
        have hcapI : (l.length : Int) ≤ (cap : Int) := by omega
        clear hfin hn h2 h3 h4 hdone hK hNr hc
        go_wp2
        go_ret
        exact HF.out
end Go.Proofs.YtbccikefccdekaaGreatDoor.Sn

/-
  slices.SortFunc at strings: the library's contract, laid (the tables of numbers in plain words).
-/
namespace Go.Proofs.YtbccikefccdekaaGreatDoor
open Go.Shelf
set_option maxRecDepth 100000
def Tryz.sortF_ren : Go.Shelf.Ren := ⟨fun | 6 => 40 | 15 => 67 | 14 => 66 | 28 => 100 | 29 => 101 | 20 => 92 | 21 => 93 | 22 => 94 | 23 => 95 | 24 => 96 | 25 => 97 | 26 => 98 | 27 => 99 | 46 => 113 | 47 => 114 | 48 => 115 | 49 => 116 | 50 => 117 | 57 => 133 | n => n, fun | 22 => 46 | 24 => 9 | 25 => 78 | 3 => 3 | 39 => 103 | 0 => 0 | 53 => 112 | 55 => 109 | 4 => 4 | 46 => 122 | 45 => 121 | 50 => 126 | 5 => 5 | 9 => 9 | 66 => 138 | 70 => 142 | 76 => 153 | 77 => 154 | n => n, fun | n => n⟩
theorem Tryz.sortF : Go.Proofs.SlLaysF.n6 Tryz.prog Tryz.sortF_ren := {
  mixed := by kernel_rfl
  f6 := ⟨Tryz.f40.name, by decide, Tryz.func40.trans (congrArg some (by kernel_rfl))⟩
  f14 := ⟨Tryz.f66.name, by decide, Tryz.func66.trans (congrArg some (by kernel_rfl))⟩
  f15 := Tryz.func67.trans (congrArg some (by kernel_rfl))
  f20 := ⟨Tryz.f92.name, by decide, Tryz.func92.trans (congrArg some (by kernel_rfl))⟩
  f21 := ⟨Tryz.f93.name, by decide, Tryz.func93.trans (congrArg some (by kernel_rfl))⟩
  f22 := ⟨Tryz.f94.name, by decide, Tryz.func94.trans (congrArg some (by kernel_rfl))⟩
  f23 := ⟨Tryz.f95.name, by decide, Tryz.func95.trans (congrArg some (by kernel_rfl))⟩
  f24 := ⟨Tryz.f96.name, by decide, Tryz.func96.trans (congrArg some (by kernel_rfl))⟩
  f25 := ⟨Tryz.f97.name, by decide, Tryz.func97.trans (congrArg some (by kernel_rfl))⟩
  f26 := ⟨Tryz.f98.name, by decide, Tryz.func98.trans (congrArg some (by kernel_rfl))⟩
  f27 := ⟨Tryz.f99.name, by decide, Tryz.func99.trans (congrArg some (by kernel_rfl))⟩
  f28 := Tryz.func100.trans (congrArg some (by kernel_rfl))
  f29 := Tryz.func101.trans (congrArg some (by kernel_rfl))
  f46 := ⟨Tryz.f113.name, by decide, Tryz.func113.trans (congrArg some (by kernel_rfl))⟩
  f47 := Tryz.func114.trans (congrArg some (by kernel_rfl))
  f48 := Tryz.func115.trans (congrArg some (by kernel_rfl))
  f49 := ⟨Tryz.f116.name, by decide, Tryz.func116.trans (congrArg some (by kernel_rfl))⟩
  f50 := ⟨Tryz.f117.name, by decide, Tryz.func117.trans (congrArg some (by kernel_rfl))⟩
  f57 := ⟨Tryz.f133.name, by decide, Tryz.func133.trans (congrArg some (by kernel_rfl))⟩
  t0 := Tryz.underlying0
  a0 := Tryz.isAgg0
  z0 := Tryz.sizeOf0
  v0 := Tryz.zeroValue0
  t3 := Tryz.underlying3
  a3 := Tryz.isAgg3
  z3 := Tryz.sizeOf3
  v3 := Tryz.zeroValue3
  t4 := Tryz.underlying4
  a4 := Tryz.isAgg4
  z4 := Tryz.sizeOf4
  v4 := Tryz.zeroValue4
  t5 := Tryz.underlying5
  a5 := Tryz.isAgg5
  z5 := Tryz.sizeOf5
  v5 := Tryz.zeroValue5
  t9 := Tryz.underlying9
  a9 := Tryz.isAgg9
  z9 := Tryz.sizeOf9
  v9 := Tryz.zeroValue9
  t22 := Tryz.underlying46
  a22 := Tryz.isAgg46
  z22 := Tryz.sizeOf46
  v22 := Tryz.zeroValue46
  a24 := Tryz.isAgg9
  z24 := Tryz.sizeOf9
  t25 := Tryz.underlying78
  a25 := Tryz.isAgg78
  z25 := Tryz.sizeOf78
  v25 := Tryz.zeroValue78
  t39 := Tryz.underlying103
  a39 := Tryz.isAgg103
  z39 := Tryz.sizeOf103
  v39 := Tryz.zeroValue103
  t45 := Tryz.underlying121
  a45 := Tryz.isAgg121
  z45 := Tryz.sizeOf121
  v45 := Tryz.zeroValue121
  t46 := Tryz.underlying122
  a46 := Tryz.isAgg122
  z46 := Tryz.sizeOf122
  v46 := Tryz.zeroValue122
  t50 := Tryz.underlying126
  a50 := Tryz.isAgg126
  z50 := Tryz.sizeOf126
  v50 := Tryz.zeroValue126
  t53 := Tryz.underlying112
  a53 := Tryz.isAgg112
  z53 := Tryz.sizeOf112
  v53 := Tryz.zeroValue112
  t55 := Tryz.underlying109
  a55 := Tryz.isAgg109
  z55 := Tryz.sizeOf109
  v55 := Tryz.zeroValue109
  t66 := Tryz.underlying138
  a66 := Tryz.isAgg138
  z66 := Tryz.sizeOf138
  v66 := Tryz.zeroValue138
  t70 := Tryz.underlying142
  a70 := Tryz.isAgg142
  z70 := Tryz.sizeOf142
  v70 := Tryz.zeroValue142
  t76 := Tryz.underlying153
  a76 := Tryz.isAgg153
  z76 := Tryz.sizeOf153
  v76 := Tryz.zeroValue153
  t77 := Tryz.underlying154
  a77 := Tryz.isAgg154
  z77 := Tryz.sizeOf154
  v77 := Tryz.zeroValue154 }
end Go.Proofs.YtbccikefccdekaaGreatDoor

/-
  LAYER 4 (snap): the snapshots' files of a disk, sorted by their falling Indexes: slices.SortFunc (written by tools/gen4_files.py out of XWlSort).
-/
namespace Go.Proofs.YtbccikefccdekaaGreatDoor.Sn
open Go.RowKit Go.Maps Go.Shelf
set_option linter.unusedVariables false
set_option maxRecDepth 100000

/-- Draws and new blocks alone. -/
def Grew (w w' : World) : Prop := ∃ k os, w' = Sort.grow (w.drewN k) os
theorem Grew.refl (w : World) : Grew w w := ⟨0, #[], by rw [Sort.grow_empty]; rfl⟩
theorem Grew.trans {a b c : World} (h : Grew a b) (k : Grew b c) : Grew a c := by
  obtain ⟨n, os, rfl⟩ := h
  obtain ⟨m, os', rfl⟩ := k
  refine ⟨n + m, os ++ os', ?_⟩
  rw [← Sort.grow_grow]
  show Sort.grow (Sort.grow ((a.drewN n).drewN m) os) os' = _
  rw [World.drewN_drewN]
theorem Grew.below {w w' : World} (h : Grew w w') : Below w.heap.size w w' := by
  obtain ⟨k, os, rfl⟩ := h
  exact below_ahead w k os
theorem grew_bytes (w : World) (e : TypeId) (s : ByteArray) : Grew w (Lib.bytesWorld w e s) := by
  obtain ⟨o, ho⟩ : ∃ o, (Lib.bytesWorld w e s).heap[w.heap.size]? = some o := ⟨_, Lib.bytesWorld_at_new w e s⟩
  have hh : (Lib.bytesWorld w e s).heap = w.heap ++ #[o] := by
    apply Array.ext_getElem?
    intro j
    rcases Nat.lt_trichotomy j w.heap.size with h | h | h
    · rw [Lib.bytesWorld_at_old w e s j h, Array.getElem?_append_left h]
    · subst h
      rw [ho, Array.getElem?_append_right (Nat.le_refl _), Nat.sub_self]; rfl
    · rw [Array.getElem?_eq_none (by rw [Lib.bytesWorld_size]; omega), Array.getElem?_eq_none (by rw [Array.size_append]; show w.heap.size + 1 ≤ j; omega)]
  refine ⟨1, #[o], ?_⟩
  have h1 : Lib.bytesWorld w e s = { Lib.bytesWorld w e s with heap := (Lib.bytesWorld w e s).heap } := rfl
  rw [h1, hh]
  rfl

/-! ### the numbers of two segments, compared -/
theorem seg_atoi {l : List UInt8} (h : isSeg l = true) : ∃ c r v, l = c :: r ∧ Lib.atoiAll r = .ok v ∧ 1 ≤ v ∧ v ≤ 999999999999999999 ∧ l = segN v ∧ segV l = v.toNat := by
  have h0 : segV l ≠ 0 := by simpa [isSeg] using h
  cases l with
  | nil => exact absurd rfl h0
  | cons c r =>
    have hs := segV_cons c r
    rw [hs] at h0
    cases ha : Lib.atoiAll r with
    | ok v =>
      rw [ha] at h0 hs
      simp only at h0 hs
      by_cases hc : 1 ≤ v ∧ v ≤ 999999999999999999 ∧ c :: r = segN v
      · rw [if_pos hc] at hs; exact ⟨c, r, v, rfl, ha, hc.1, hc.2.1, hc.2.2, hs⟩
      · rw [if_neg hc] at h0; exact absurd rfl h0
    | _ => rw [ha] at h0; exact absurd rfl h0
set_option maxHeartbeats 2000000 in
theorem segName_grew (n : Int) (w : World) {B : Nat} (hg : Glob w B) (h : I64 n) : Calls Tryz.prog 60 #[.int .i64 n] w fun e w' => e = .returned (.string (mk (segN n))) ∧ Grew w w' := by
  have hi : Calls Tryz.prog 89 #[.int .i64 n] w fun e w' => e = .returned (.string (mk (Lib.itoa n))) ∧ Grew w w' := Any.strconv_Itoa Tryz.itoaA n h.1 h.2 w hg.pow
  have HI := hid hi
  have he : (ByteArray.mk #[112]) ++ mk (Lib.itoa n) = mk (segN n) := mk_append [112] (Lib.itoa n)
  have hd : (mk (Lib.itoa n)).size ≤ 21 := by rw [mk_size]; exact Lib.itoa_length_le n h.1 h.2
  clear h hg hi
  generalize mk (segN n) = r at *
  generalize mk (Lib.itoa n) = d at *
  go_enter Tryz.func60, Tryz.ntmps60
  go_wp2_with (go_at_call 89; (with_reducible refine HI.out.mono ?_); rintro e w1 ⟨rfl, hb⟩)
  go_ret
  exact ⟨rfl, hb⟩
set_option maxHeartbeats 2000000 in
theorem segNum_grew (l : List UInt8) (hl : isSeg l = true) (w : World) {B : Nat} (hg : Glob w B) (hB : B ≤ w.heap.size) : Calls Tryz.prog 69 #[.string (mk l)] w fun e w' => e = .returned (.int .i64 (segV l : Int)) ∧ Grew w w' := by
  obtain ⟨c, r, v, rfl, ha, h1, h2, h3, h4⟩ := seg_atoi hl
  have hz : (mk (c :: r)).size = r.length + 1 := by rw [mk_size]; rfl
  have hr : r.length ≤ 21 := by
    have := congrArg List.length h3
    have h5 := Lib.itoa_length_le v (by omega) (by omega)
    simp only [segN, List.length_cons] at this
    omega
  have hq : ((mk (c :: r)).toList == []) = false := by rw [Lib.toList_data]; rfl
  have hq1 : (mk (c :: r)).toList ≠ [] := by rw [Lib.toList_data]; simp [mk]
  have l1 := fun wx => slice_l (s := mk (c :: r)) (lo := 1) (l := r) (by omega) (by omega) rfl wx
  have hA : Calls Tryz.prog 103 #[.string (mk r)] w fun e w' => e = .returned (.tuple #[.int .i64 v, .nilIface]) ∧ Grew w w' := (Any.strconv_Atoi_ok Tryz.atoiA (mk r) (by rw [mk_size]; omega) v ha w).mono fun e w' ⟨he, hw⟩ => ⟨he, by
    rcases hw with rfl | ⟨t, rfl⟩
    · exact Grew.refl _
    · exact grew_bytes w _ t⟩
  have HA := hid hA
  have HS := hid (fun wx (hb : Grew w wx) => segName_grew v wx (hg.below hb.below hB) ⟨by omega, by omega⟩)
  rw [← h3] at HS
  have hv : ((segV (c :: r) : Nat) : Int) = v := by omega
  rw [hv]
  clear hA ha h3 h4 hv hg hl
  generalize mk (c :: r) = s at *
  generalize mk r = rb at *
  go_enter Tryz.func69, Tryz.ntmps69
  go_wp2_with (first | (go_at_call 103; (with_reducible refine HA.out.mono ?_); rintro e w1 ⟨rfl, hb⟩) | (go_at_call 60; (with_reducible refine (HS.out _ hb).mono ?_); rintro e w2 ⟨rfl, hb2⟩))
  go_ret
  exact ⟨rfl, hb.trans hb2⟩
def cmpI (x y : Int) : Int := if x < y then -1 else if y < x then 1 else 0
theorem cmpInt_any (x y : Int) (w : World) : Calls Tryz.prog 68 #[.int .i64 x, .int .i64 y] w fun e w' => e = .returned (.int .i64 (cmpI x y)) ∧ w = w' := by
  unfold cmpI
  by_cases h1 : x < y
  · rw [if_pos h1]
    go_enter Tryz.func68, Tryz.ntmps68
    go_wp2
    go_ret
    exact ⟨rfl, rfl⟩
  · rw [if_neg h1]
    by_cases h2 : y < x
    · rw [if_pos h2]
      go_enter Tryz.func68, Tryz.ntmps68
      go_wp2
      go_ret
      exact ⟨rfl, rfl⟩
    · rw [if_neg h2]
      go_enter Tryz.func68, Tryz.ntmps68
      go_wp2
      go_ret
      exact ⟨rfl, rfl⟩
def cmpSeg (a b : List UInt8) : Int := cmpI (segV b : Int) (segV a : Int)
theorem byNum_grew (a b : List UInt8) (ha : isSeg a = true) (hb : isSeg b = true) (w : World) {B : Nat} (hg : Glob w B) (hB : B ≤ w.heap.size) :
    Calls Tryz.prog 41 #[.string (mk a), .string (mk b)] w fun e w' => e = .returned (.int .i64 (cmpSeg a b)) ∧ Grew w w' := by
  have H1 := hid (segNum_grew b hb w hg hB)
  have H2 := hid (fun wx (h : Grew w wx) => segNum_grew a ha wx (hg.below h.below hB) (by have := h.below.size; omega))
  have H3 := hid (fun wx => cmpInt_any (segV b : Int) (segV a : Int) wx)
  unfold cmpSeg
  clear ha hb hg
  generalize cmpI (segV b : Int) (segV a : Int) = r at *
  generalize (segV a : Int) = x at *
  generalize (segV b : Int) = y at *
  generalize mk a = sa at *
  generalize mk b = sb at *
  go_enter Tryz.func41, Tryz.ntmps41
  go_wp2_with (first
    | (go_at_call 69; first | ((with_reducible refine H1.out.mono ?_); rintro e w1 ⟨rfl, hb1⟩) | ((with_reducible refine (H2.out _ hb1).mono ?_); rintro e w2 ⟨rfl, hb2⟩))
    | (go_at_call 68; (with_reducible refine (H3.out _).mono ?_); rintro e w3 ⟨rfl, rfl⟩))
  go_ret
  exact ⟨rfl, hb1.trans hb2⟩

/-! ### the row, sorted -/
theorem heap_sorted {α : Type} [Inhabited α] (enc : α → Value) (w : World) (g m : Nat) (d : Array α) (os : Array Obj) (b : Nat) (hb : b < w.heap.size) (hne : b ≠ g) : (Sort.grow (Sort.putRow enc (Sort.ahead w m) g 0 d) os).heap[b]? = w.heap[b]? := by
  have hz : (Sort.putRow enc (Sort.ahead w m) g 0 d).heap.size = w.heap.size := Sort.size_putRow enc (Sort.ahead w m) g 0 d
  show ((Sort.putRow enc (Sort.ahead w m) g 0 d).heap ++ os)[b]? = _
  rw [Array.getElem?_append_left (by omega)]
  show ((w.heap.modify g _)[b]?) = _
  rw [Array.getElem?_modify, if_neg (fun e => hne e.symm)]
theorem chg_sorted {α : Type} [Inhabited α] (enc : α → Value) (w : World) (g m : Nat) (d : Array α) (os : Array Obj) : Chg (fun b => b = g) w (Sort.grow (Sort.putRow enc (Sort.ahead w m) g 0 d) os) :=
  ⟨rfl, rfl, rfl, by
    have hz : (Sort.putRow enc (Sort.ahead w m) g 0 d).heap.size = w.heap.size := Sort.size_putRow enc (Sort.ahead w m) g 0 d
    show w.heap.size ≤ ((Sort.putRow enc (Sort.ahead w m) g 0 d).heap ++ os).size
    rw [Array.size_append]; omega, fun b hb hne => heap_sorted enc w g m d os b hb hne⟩
theorem row_sorted {α : Type} [Inhabited α] (enc : α → Value) {w : World} {B : Nat} {T : TypeId} {g cap n : Nat} {xs : List Value} (h : w.ownsRow B T 1 (.slice (some ⟨g, 0, none⟩) n cap) n xs) (d : Array α) (hd : d.size = n) (m : Nat) (os : Array Obj) :
    (Sort.grow (Sort.putRow enc (Sort.ahead w m) g 0 d) os).ownsRow B T 1 (.slice (some ⟨g, 0, none⟩) n cap) n (d.toList.map enc) := by
  rcases h.2 with ⟨hv, _⟩ | ⟨g', cap', cur, hv, hB, hg, hnc, hcm, hcs, htake⟩
  · cases hv
  · cases hv
    have hz : (Sort.putRow enc (Sort.ahead w m) g 0 d).heap.size = w.heap.size := Sort.size_putRow enc (Sort.ahead w m) g 0 d
    have hlt : g < w.heap.size := (Array.getElem?_eq_some_iff.1 hg).1
    refine ⟨by simp [hd], .inr ⟨g, cap, Sort.putCells enc 0 d cur, rfl, hB, ?_, hnc, hcm, by simpa [Sort.putCells] using hcs, ?_⟩⟩
    · show ((Sort.putRow enc (Sort.ahead w m) g 0 d).heap ++ os)[g]? = _
      rw [Array.getElem?_append_left (by omega)]
      show ((w.heap.modify g _)[g]?) = _
      rw [Array.getElem?_modify, if_pos rfl, hg]
      rfl
    · have hn : n ≤ cur.size := by omega
      apply List.ext_getElem
      · simp [Sort.putCells, hd]; omega
      · intro i h1 h2
        have hi : i < d.size := by simpa using h2
        simp only [Sort.putCells, List.getElem_take, Array.getElem_toList, Array.getElem_mapIdx, List.getElem_map]
        rw [if_pos ⟨Nat.zero_le _, by omega⟩, Nat.sub_zero, getElem!_pos d i hi]

def segLe (a b : List UInt8) : Bool := decide (segV b ≤ segV a)
def sortSeg (l : List (List UInt8)) : List (List UInt8) := l.mergeSort segLe
theorem seg_inj {a b : List UInt8} (ha : isSeg a = true) (hb : isSeg b = true) (h : segV a = segV b) : a = b := by
  obtain ⟨_, _, v, _, _, h1, _, h3, h4⟩ := seg_atoi ha
  obtain ⟨_, _, u, _, _, k1, _, k3, k4⟩ := seg_atoi hb
  have : v = u := by omega
  rw [h3, k3, this]
theorem cmpSeg_neg (a b : List UInt8) : cmpSeg a b < 0 ↔ segV b < segV a := by
  unfold cmpSeg cmpI
  split
  · exact ⟨fun _ => by omega, fun _ => by omega⟩
  · split
    · exact ⟨fun h => by omega, fun h => by omega⟩
    · exact ⟨fun h => by omega, fun h => by omega⟩
abbrev SegT := { x : List UInt8 // isSeg x = true }
def cmpT (x y : SegT) : Int := cmpSeg x.1 y.1
theorem ltT (x y : SegT) : ltOf cmpT x y = decide (segV y.1 < segV x.1) := by
  unfold ltOf
  rw [Bool.eq_iff_iff, decide_eq_true_iff, decide_eq_true_iff]
  exact cmpSeg_neg x.1 y.1
theorem swoT : Sort.SWO (ltOf cmpT) := by
  refine ⟨fun x => ?_, fun x y z h1 h2 => ?_, fun x y z h1 h2 => ?_⟩
  · rw [ltT]; simp
  · rw [ltT, decide_eq_true_iff] at *; omega
  · rw [ltT, decide_eq_false_iff_not] at *; omega
def encT (x : SegT) : Value := .string (mk x.1)
theorem sort_map (d : List SegT) : (d.mergeSort fun x y => !(ltOf cmpT) y x).map Subtype.val = sortSeg (d.map Subtype.val) := by
  unfold sortSeg
  refine List.map_mergeSort (fun a _ b _ => ?_)
  rw [ltT]
  unfold segLe
  rw [Bool.eq_iff_iff]
  simp
theorem sortFunc_any (v : Value) (l : List (List UInt8)) (hall : ∀ x ∈ l, isSeg x = true) (w : World) {B B0 : Nat} (hg : Glob w B0) (hB0 : B0 ≤ B) (hB : B ≤ w.heap.size) (h : NamesAt w B v l) (hl : l.length ≤ 1000) :
    Calls Tryz.prog 40 #[v, .func (.func 41) #[] #[]] w fun e w' => e = .returned (.tuple #[]) ∧ NamesAt w' B v (sortSeg l) ∧ Chg (fun b => v.ownBlock = some b) w w' := by
  by_cases hne : l = []
  · subst hne
    obtain ⟨ao, cap, rfl⟩ := names_slice h
    refine (AnyF.slices_SortFunc_none { Tryz.sortF with } ao cap _ w).mono ?_
    rintro e w' ⟨he, rfl⟩
    exact ⟨he, by simpa [sortSeg] using h, Chg.refl _ _⟩
  · have hpos := List.length_pos_iff.2 hne
    obtain ⟨g, cap, rfl, hgB, hgl, hnc, _⟩ := names_cell h (j := 0) hpos
    haveI : Inhabited SegT := ⟨⟨l[0], hall _ (List.getElem_mem hpos)⟩⟩
    obtain ⟨D, hD⟩ : ∃ D : List SegT, D.map Subtype.val = l := ⟨l.attach.map fun x => ⟨x.1, hall x.1 x.2⟩, by simp [List.map_map, Function.comp_def]⟩
    have hDl : D.length = l.length := by rw [← hD]; simp
    have hH : Sort.Holds encT w g 0 D.toArray := by
      intro j hj
      have hj' : j < D.length := by simpa using hj
      have hjl : j < l.length := by omega
      refine ⟨?_, names_frozen h _⟩
      rw [Nat.zero_add, names_at h hjl]
      have : l[j] = (D[j]'hj').1 := by
        have h1 : (D.map Subtype.val)[j]'(by simpa using hj') = l[j] := by simp only [hD]
        rw [← h1]; simp
      rw [this, getElem!_pos D.toArray j hj]
      rfl
    have hcmp : CmpLays1 Tryz.prog 41 #[] encT cmpT g 0 D.toArray.size w := fun m os dk _ x y =>
      byNum_grew x.1 y.1 x.2 y.2 _ (hg.chg (chg_sorted encT w g m dk os) (by omega) (fun b e => by omega)) (by have := (chg_sorted encT w g m dk os).size; show B0 ≤ (Sort.grow (Sort.putRow encT (Sort.ahead w m) g 0 dk) os).heap.size; omega)
    have hO : OneCell encT := by
      first | exact fun x => rfl | exact ⟨fun x => rfl⟩ | exact ⟨fun x => rfl, fun x => rfl⟩
    have hc := Any.slices_SortFunc_total Tryz.sortF encT hO cmpT swoT 41 #[] g 0 cap D.toArray w (enters_of Tryz.func41 (by kernel_rfl) rfl) hcmp hH hgl (by simp; omega) (fun x y h1 h2 => by
      rw [ltT, decide_eq_false_iff_not] at h1 h2
      exact Subtype.ext (seg_inj x.2 y.2 (by omega)))
    have hsz : D.toArray.size = l.length := by simpa using hDl
    rw [hsz] at hc
    refine hc.mono ?_
    rintro e w' ⟨he, n, os, rfl⟩
    have hr := row_sorted encT h (D.toArray.toList.mergeSort fun x y => !(ltOf cmpT) y x).toArray (by simp [hDl]) n os
    refine ⟨he, ?_, (chg_sorted encT w g n _ os).mono (fun b e => by rw [e]; rfl)⟩
    have hl2 : (sortSeg l).length = l.length := by simp [sortSeg]
    have hm := sort_map D
    unfold NamesAt
    rw [hl2]
    have he2 : (sortSeg l).map encStr = ((D.mergeSort fun x y => !(ltOf cmpT) y x).map encT) := by
      rw [← hD, ← hm, List.map_map]
      rfl
    rw [he2]
    exact hr
end Go.Proofs.YtbccikefccdekaaGreatDoor.Sn

/-
  LAYER 4 (snap), plain mathematics: the name of a snapshot's file is read as its Index, and is a file's name (written by tools/gen4_files.py out of XWlName).
-/
namespace Go.Proofs.YtbccikefccdekaaGreatDoor.Sn
open Go.RowKit Go.Lib
set_option linter.unusedVariables false
set_option maxRecDepth 100000

theorem digitVal_of {d : Nat} (h : d < 10) : digitVal (UInt8.ofNat (48 + d)) = some d := by
  have e : (UInt8.ofNat (48 + d)).toNat = 48 + d := by rw [UInt8.toNat_ofNat']; exact Nat.mod_eq_of_lt (by omega)
  unfold digitVal
  rw [e, if_pos (by omega)]
  congr 1
  omega
theorem decFrom_append : ∀ (l m : List UInt8) (acc n : Nat), decFrom acc l = some n → decFrom acc (l ++ m) = decFrom n m
  | [], m, acc, n, h => by simp only [decFrom, Option.some.injEq] at h; subst h; rfl
  | a :: t, m, acc, n, h => by
    simp only [decFrom, List.cons_append] at h ⊢
    cases ha : digitVal a with
    | none => simp [ha] at h
    | some e =>
      simp only [ha] at h ⊢
      exact decFrom_append t m _ n h
theorem decFrom_digits (u : Nat) : decFrom 0 (decDigits u) = some u := by
  induction u using Nat.strongRecOn with
  | _ u ih =>
    by_cases h : u < 10
    · rw [decDigits, dif_pos h]
      simp only [decFrom, digitVal_of h]
      simp
    · rw [decDigits, dif_neg h, decFrom_append _ _ _ _ (ih (u / 10) (by omega))]
      simp only [decFrom, digitVal_of (Nat.mod_lt u (by omega : 0 < 10))]
      congr 1
      omega
theorem decDigits_mem {u : Nat} {c : UInt8} (h : c ∈ decDigits u) : 48 ≤ c.toNat ∧ c.toNat ≤ 57 := by
  obtain ⟨k, hk, rfl⟩ := List.getElem_of_mem h
  obtain ⟨d, hd⟩ := digit_of_decFrom _ _ _ (decFrom_digits u) k _ (List.getElem?_eq_getElem hk)
  have := digitVal_eq hd
  omega
theorem decDigits_ne (u : Nat) : decDigits u ≠ [] := by
  intro h
  have := decDigits_length u
  rw [h] at this
  have := nDigits_pos u
  simp at *
  omega
theorem itoa_nat (n : Nat) : itoa (n : Int) = decDigits n := by
  unfold itoa
  rw [if_neg (by omega), Int.toNat_natCast]
theorem atoi_itoa (n : Nat) : atoi (decDigits n) = some (n : Int) := by
  cases hl : decDigits n with
  | nil => exact absurd hl (decDigits_ne n)
  | cons b r =>
    have hb := decDigits_mem (u := n) (c := b) (by rw [hl]; simp)
    have hd := decFrom_digits n
    rw [hl] at hd
    have h1 : (b == 45) = false := by rw [beq_eq_false_iff_ne]; intro e; rw [e] at hb; exact absurd hb.1 (by decide)
    have h2 : (b == 43) = false := by rw [beq_eq_false_iff_ne]; intro e; rw [e] at hb; exact absurd hb.1 (by decide)
    simp only [atoi, h1, h2, decNat, hd]
    simp
theorem decDigits_short {n : Nat} (h : n ≤ 1099511627776) : (decDigits n).length ≤ 13 := by
  rw [decDigits_length]
  rcases Nat.lt_or_ge 13 (nDigits n) with h6 | h6
  · exfalso
    have key : ∀ k u : Nat, k < nDigits u → 10 ^ k ≤ u ∨ k = 0 := by
      intro k
      induction k with
      | zero => intro u _; exact .inr rfl
      | succ k ih =>
        intro u hu
        by_cases hs : u < 10
        · rw [nDigits_small hs] at hu; omega
        · rw [nDigits_big hs] at hu
          rcases ih (u / 10) (by omega) with h1 | h1
          · left
            rw [Nat.pow_succ]; omega
          · left
            rw [h1]; omega
    rcases key 13 n h6 with h1 | h1
    · have : (10 : Nat) ^ 13 = 10000000000000 := by decide
      omega
    · omega
  · exact h6
theorem atoiAll_itoa {n : Nat} (h : n ≤ 1099511627776) : atoiAll (decDigits n) = .ok (n : Int) := by
  rw [atoiAll_short _ (by have := decDigits_short h; omega), atoi_itoa]
  rfl
theorem segN_nat (n : Nat) : segN (n : Int) = 112 :: decDigits n := by unfold segN; rw [itoa_nat]
theorem segV_segN {n : Nat} (h1 : 1 ≤ n) (h2 : n ≤ 1099511627776) : segV (segN (n : Int)) = n := by
  rw [segN_nat, segV_cons, atoiAll_itoa h2]
  simp only
  rw [if_pos ⟨by omega, by omega, (segN_nat n).symm⟩, Int.toNat_natCast]
theorem isName_segN {n : Nat} (h : n ≤ 1099511627776) : isName (segN (n : Int)) = true := by
  rw [segN_nat]
  have hl := decDigits_short h
  unfold isName
  simp only [List.length_cons, Bool.and_eq_true, decide_eq_true_eq, List.all_eq_true]
  refine ⟨by omega, fun c hc => ?_⟩
  rcases List.mem_cons.1 hc with rfl | hc
  · decide
  · have := decDigits_mem hc
    unfold nameByte
    rw [decide_eq_true_eq]
    right
    omega
/-- A name that is a segment's is what its number is written as. -/
theorem segV_name {l : List UInt8} (h : segV l ≠ 0) : l = segN (segV l : Int) ∧ 1 ≤ segV l ∧ segV l ≤ 999999999999999999 := by
  have hle := segV_le l
  refine ⟨?_, by omega, hle⟩
  cases l with
  | nil => exact absurd segV_nil h
  | cons c r =>
    have e := segV_cons c r
    cases ha : atoiAll r with
    | ok v =>
      rw [ha] at e
      simp only at e
      by_cases hc : 1 ≤ v ∧ v ≤ 999999999999999999 ∧ c :: r = segN v
      · rw [if_pos hc] at e
        rw [e, show ((v.toNat : Nat) : Int) = v by omega]
        exact hc.2.2
      · rw [if_neg hc] at e; exact absurd e h
    | _ => rw [ha] at e; exact absurd e h
end Go.Proofs.YtbccikefccdekaaGreatDoor.Sn

