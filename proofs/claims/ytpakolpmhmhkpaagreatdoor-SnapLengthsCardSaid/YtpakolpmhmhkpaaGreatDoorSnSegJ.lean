import Derived.Test.YtpakolpmhmhkpaaGreatDoorMq1J
import Derived.Test.YtpakolpmhmhkpaaGreatDoorMq3J
import Derived.Lib.SliceRun
/-
  LAYER 4 (snap): slices.IndexFunc and slices.DeleteFunc, where names that are no snapshot's are struck (written by tools/gen4_files.py out of XWlSeg).
-/
namespace Go.Proofs.YtpakolpmhmhkpaaGreatDoor.Sn
open Go.RowKit Go.Maps Go.Sort
set_option linter.unusedVariables false
set_option maxRecDepth 100000

theorem ownsRow_set {w : World} {B : Nat} {e : TypeId} {size : Nat} {v : Value} {n : Nat} {xs : List Value} (h : w.ownsRow B e size v n xs) {g : Nat} (hg : v.ownBlock = some g) {j : Nat} (hj : j < xs.length) (u : Value) :
    (w.setCell ⟨g, j, none⟩ u).ownsRow B e size v n (xs.set j u) := by
  obtain ⟨h1, h2⟩ := h
  refine ⟨by simpa using h1, ?_⟩
  rcases h2 with ⟨rfl, _⟩ | ⟨g', cap, cur, rfl, hB, hgc, hnc, hcm, hcs, htake⟩
  · cases hg
  · obtain rfl : g' = g := by simpa [Value.ownBlock] using hg
    refine .inr ⟨g', cap, cur.setIfInBounds j u, rfl, hB, ?_, hnc, hcm, by simpa using hcs, ?_⟩
    · simp [World.setCell, Array.getElem?_modify, hgc]
    · rw [Array.toList_setIfInBounds, List.take_set, htake]
def isSeg (x : List UInt8) : Bool := decide (segV x ≠ 0)
def FoundAt (w : World) (l : List (List UInt8)) (e : Ending) (w' : World) : Prop :=
  ((e = .returned (.int .i64 (-1)) ∧ ∀ x ∈ l, isSeg x = true) ∨ ∃ k, ∃ h : k < l.length, e = .returned (.int .i64 (k : Int)) ∧ isSeg (l[k]'h) = false ∧ (∀ j (hj : j < k), isSeg (l[j]'(by omega)) = true) ∧ ((k : Int) == -1) = false) ∧ Below w.heap.size w w'
def IdxRel (w : World) (l : List (List UInt8)) (u : Value) (wr : World) : Prop := ∃ k, k ≤ l.length ∧ u = .int .i64 (k : Int) ∧ (∀ j (hj : j < k) (hl : j < l.length), isSeg (l[j]'hl) = true) ∧ Below w.heap.size w wr
set_option maxHeartbeats 2000000 in
theorem indexFunc_any (v : Value) (l : List (List UInt8)) (w : World) {B B0 : Nat} (hg : Glob w B0) (hB0 : B0 ≤ w.heap.size) (h : NamesAt w B v l) (hs : ∀ x ∈ l, x.length ≤ 1000) (hl : l.length ≤ 1000) :
    Calls Tryz.prog 93 #[v, .func (.func 67) #[] #[]] w (FoundAt w l) := by
  have HG := hid hg
  have HN := hid h
  have HS := hid hs
  obtain ⟨ao, cap, rfl⟩ := names_slice h
  clear h hs hg
  go_enter Tryz.func93, Tryz.ntmps93
  go_wp2
  go_loopw [8] (IdxRel w l) (fun i _ => l.length - (intOf i).toNat)
  case atStart => exact ⟨0, Nat.zero_le _, rfl, fun j hj => by omega, Below.refl _ _⟩
  case round =>
    obtain ⟨k, hk, rfl, hall, hb⟩ := hrel
    have HA := hid hall
    clear hall
    by_cases hlt : k < l.length
    · obtain ⟨g, cap', hv, hgB, hglt, hnc, hcell⟩ := names_cell HN.out hlt
      simp only [Value.slice.injEq] at hv
      obtain ⟨rfl, _, rfl⟩ := hv
      have hc := (hb.cell (p := ⟨g, k, none⟩) hglt).trans hcell
      have hP := notSeg_any (mk l[k]) wr (HG.out.below hb hB0) (by have := hb.size; omega) (by rw [mk_size]; exact HS.out _ (List.getElem_mem hlt))
      rw [mk_data] at hP
      have hkI : (k : Int) < (l.length : Int) := by omega
      clear hcell
      by_cases hz : segV l[k] = 0
      · rw [show decide (segV l[k] = 0) = true by simpa using hz] at hP
        have HP := hid hP
        have hfin : ∀ wx, Below wr.heap.size wr wx → FoundAt w l (.returned (.int .i64 (k : Int))) wx := fun wx hx => ⟨.inr ⟨k, hlt, rfl, by simp [isSeg, hz], fun j hj => HA.out j hj (by omega), beq_eq_false_iff_ne.2 (by omega)⟩, hb.trans (hx.mono hb.size)⟩
        have HF := hid hfin
        clear hP hz hfin
        generalize mk l[k] = nb at *
        go_wp2_with (go_at_call 67; (with_reducible refine HP.out.mono ?_); rintro e w1 ⟨rfl, hb1⟩)
        go_ret
        exact HF.out _ hb1
      · rw [show decide (segV l[k] = 0) = false by simpa using hz] at hP
        have HP := hid hP
        have hfin : ∀ wx, Below wr.heap.size wr wx → IdxRel w l (.int .i64 ((k + 1 : Nat) : Int)) wx := fun wx hx => ⟨k + 1, hlt, rfl, fun j hj hl => by
          by_cases hjk : j < k
          · exact HA.out j hjk hl
          · obtain rfl : j = k := by omega
            simp [isSeg, hz], hb.trans (hx.mono hb.size)⟩
        have HF := hid hfin
        clear hP hz hfin
        generalize mk l[k] = nb at *
        go_wp2_with (go_at_call 67; (with_reducible refine HP.out.mono ?_); rintro e w1 ⟨rfl, hb1⟩)
        go_roundw
        case rel => exact HF.out _ hb1
        case measure => simp [intOf]; omega
    · obtain rfl : k = l.length := by omega
      have hfin : FoundAt w l (.returned (.int .i64 (-1))) wr := ⟨.inl ⟨rfl, fun x hx => by
        obtain ⟨j, hj, rfl⟩ := List.getElem_of_mem hx
        exact HA.out j hj hj⟩, hb⟩
      have HF := hid hfin
      clear hfin
      go_wp2
      go_ret
      exact HF.out

/-- The names, as far as the loop has come. -/
structure Kept (l : List (List UInt8)) (j i : Nat) (C : List (List UInt8)) : Prop where
  len : C.length = l.length
  low : C.take i = (l.take j).filter isSeg
  high : ∀ t, j ≤ t → C[t]? = l[t]?
  lt : i < j
theorem Kept.start {l : List (List UInt8)} {k : Nat} (hk : k < l.length) (h0 : isSeg (l[k]'hk) = false) (hall : ∀ j (hj : j < k), isSeg (l[j]'(by omega)) = true) : Kept l (k + 1) k l := by
  refine ⟨rfl, ?_, fun t _ => rfl, Nat.lt_succ_self _⟩
  rw [List.take_succ_eq_append_getElem hk, List.filter_append]
  have h1 : (l.take k).filter isSeg = l.take k := by
    rw [List.filter_eq_self]
    intro x hx
    obtain ⟨j, hj, rfl⟩ := List.getElem_of_mem hx
    rw [List.getElem_take]
    exact hall j (by rw [List.length_take] at hj; omega)
  rw [h1]; simp [h0]
theorem Kept.keep {l : List (List UInt8)} {j i : Nat} {C : List (List UInt8)} (h : Kept l j i C) (hj : j < l.length) (h1 : isSeg (l[j]'hj) = true) : Kept l (j + 1) (i + 1) (C.set i (l[j]'hj)) := by
  have hlt := h.lt
  have hlen := h.len
  refine ⟨by rw [List.length_set]; exact hlen, ?_, fun t ht => ?_, by omega⟩
  · rw [List.take_succ_eq_append_getElem hj, List.filter_append, ← h.low, List.take_succ_eq_append_getElem (by rw [List.length_set]; omega), List.take_set_of_le (Nat.le_refl i)]
    simp [h1]
  · rw [List.getElem?_set_ne (by omega)]; exact h.high t (by omega)
theorem Kept.skip {l : List (List UInt8)} {j i : Nat} {C : List (List UInt8)} (h : Kept l j i C) (hj : j < l.length) (h1 : isSeg (l[j]'hj) = false) : Kept l (j + 1) i C := by
  refine ⟨h.len, ?_, fun t ht => h.high t (by omega), by have := h.lt; omega⟩
  rw [List.take_succ_eq_append_getElem hj, List.filter_append, ← h.low]; simp [h1]
theorem Kept.get {l : List (List UInt8)} {j i : Nat} {C : List (List UInt8)} (h : Kept l j i C) (hj : j < l.length) : ∃ hc : j < C.length, C[j]'hc = l[j]'hj := by
  have hc : j < C.length := by rw [h.len]; exact hj
  refine ⟨hc, ?_⟩
  have := h.high j (Nat.le_refl _)
  rw [List.getElem?_eq_getElem hc, List.getElem?_eq_getElem hj] at this
  exact Option.some.inj this
theorem Kept.done {l : List (List UInt8)} {i : Nat} {C : List (List UInt8)} (h : Kept l l.length i C) : C.take i = l.filter isSeg := by rw [h.low, List.take_length]

section
variable {w w' : World} {B g n cap : Nat} {C : List (List UInt8)}
theorem names_frozen (h : NamesAt w B (.slice (some ⟨g, 0, none⟩) n cap) C) (j : Nat) : w.frozen? ⟨g, j, none⟩ = false := by
  rcases h.2 with ⟨hv, _⟩ | ⟨g', cap', cur, hv, _, hg, _⟩
  · cases hv
  · cases hv; exact Lib.frozen_of_heap hg j
theorem names_set (h : NamesAt w B (.slice (some ⟨g, 0, none⟩) n cap) C) {i : Nat} (hi : i < C.length) (x : List UInt8) : NamesAt (w.setCell ⟨g, i, none⟩ (.string (mk x))) B (.slice (some ⟨g, 0, none⟩) n cap) (C.set i x) := by
  have h1 := ownsRow_set h (g := g) rfl (j := i) (by simpa using hi) (.string (mk x))
  unfold NamesAt
  rw [List.length_set, List.map_set]
  exact h1
theorem names_same (h : NamesAt w B (.slice (some ⟨g, 0, none⟩) n cap) C) (hs : w'.heap[g]? = w.heap[g]?) : NamesAt w' B (.slice (some ⟨g, 0, none⟩) n cap) C := ownsRow_same h (fun b hb => by cases hb; exact hs)
theorem names_lt (h : NamesAt w B (.slice (some ⟨g, 0, none⟩) n cap) C) : B ≤ g ∧ g < w.heap.size := World.ownsRow.lt h g rfl
theorem names_len (h : NamesAt w B (.slice (some ⟨g, 0, none⟩) n cap) C) : C.length = n ∧ n ≤ cap := by
  rcases h.2 with ⟨hv, _⟩ | ⟨g', cap', cur, hv, _, hg, hnc, _⟩
  · cases hv
  · cases hv; exact ⟨rfl, hnc⟩
theorem names_at (h : NamesAt w B (.slice (some ⟨g, 0, none⟩) n cap) C) {i : Nat} (hi : i < C.length) : w.cell? ⟨g, i, none⟩ = some (.string (mk C[i])) := by
  obtain ⟨g2, cap2, hv, _, _, _, hc⟩ := names_cell h hi
  cases hv; exact hc
theorem names_cut (h : NamesAt w B (.slice (some ⟨g, 0, none⟩) n cap) C) {i : Nat} (hi : i ≤ n) : NamesAt w B (.slice (some ⟨g, 0, none⟩) i cap) (C.take i) := by
  have hl := names_len h
  rcases h.2 with ⟨hv, _⟩ | ⟨g', cap', cur, hv, hB, hg, hnc, hcm, hcs, htake⟩
  · cases hv
  · cases hv
    have hli : (C.take i).length = i := by rw [List.length_take]; omega
    refine ⟨by simp, .inr ⟨g, cap, cur, by rw [hli], hB, hg, by rw [hli]; omega, hcm, hcs, ?_⟩⟩
    rw [hli, List.map_take, ← htake, List.take_take]
    congr 1
    omega
theorem names_cells : ∀ (m o : Nat) (w : World) (C : List (List UInt8)), NamesAt w B (.slice (some ⟨g, 0, none⟩) n cap) C → o + m ≤ n → ∃ C', NamesAt (w.setCells g o (List.replicate m (.string ⟨#[]⟩))) B (.slice (some ⟨g, 0, none⟩) n cap) C' ∧ C'.take o = C.take o ∧ Chg (fun b => b = g) w (w.setCells g o (List.replicate m (.string ⟨#[]⟩)))
  | 0, o, w, C, h, _ => ⟨C, h, rfl, Chg.refl _ _⟩
  | m + 1, o, w, C, h, ho => by
    have hl := names_len h
    have h1 := names_set h (i := o) (by omega) []
    obtain ⟨C', h2, h3, h4⟩ := names_cells m (o + 1) _ _ h1 (by omega)
    refine ⟨C', h2, ?_, (Chg.setCell w ⟨g, o, none⟩ _).trans h4 (fun b e => .inl e)⟩
    have h5 := congrArg (List.take o) h3
    rw [List.take_take, List.take_take, Nat.min_eq_left (by omega), List.take_set_of_le (Nat.le_refl o)] at h5
    exact h5
end

def DelPost (w : World) (B : Nat) (v : Value) (l : List (List UInt8)) (e : Ending) (w' : World) : Prop :=
  ∃ v', e = .returned v' ∧ NamesAt w' B v' l ∧ Chg (fun b => v.ownBlock = some b) w w' ∧ (∀ b, v'.ownBlock = some b → v.ownBlock = some b)
def DelRel (w : World) (B g cap : Nat) (l : List (List UInt8)) (u5 u6 : Value) (wr : World) : Prop :=
  ∃ i j C, u5 = .int .i64 (i : Nat) ∧ u6 = .int .i64 (j : Nat) ∧ j ≤ l.length ∧ Kept l j i C ∧ NamesAt wr B (.slice (some ⟨g, 0, none⟩) l.length cap) C ∧ Chg (fun b => b = g) w wr
set_option maxHeartbeats 4000000 in
theorem deleteFunc_any (v : Value) (l : List (List UInt8)) (w : World) {B B0 : Nat} (hg : Glob w B0) (hB0 : B0 ≤ B) (hB : B ≤ w.heap.size) (h : NamesAt w B v l) (hs : ∀ x ∈ l, x.length ≤ 1000) (hl : l.length ≤ 1000) :
    Calls Tryz.prog 66 #[v, .func (.func 67) #[] #[]] w (DelPost w B v (l.filter isSeg)) := by
  have HI := hid (indexFunc_any v l w hg (by omega) h hs hl)
  have HG := hid hg
  have HN := hid h
  have HS := hid hs
  obtain ⟨ao, cap, rfl⟩ := names_slice h
  have hkeepAll : ∀ wx, Below w.heap.size w wx → (∀ x ∈ l, isSeg x = true) → DelPost w B (.slice ao l.length cap) (l.filter isSeg) (.returned (.slice ao l.length cap)) wx := fun wx hb hall => by
    refine ⟨_, rfl, ?_, Chg.of_below hb, fun b hb => hb⟩
    rw [List.filter_eq_self.2 hall]
    exact ownsRow_same HN.out (fun b hb' => hb.block b (World.ownsRow.lt HN.out b hb').2)
  have HAll := hid hkeepAll
  clear h hs hg hkeepAll
  go_enter Tryz.func66, Tryz.ntmps66
  go_wp2_with (go_at_call 93; (with_reducible refine HI.out.mono ?_); rintro e w1 ⟨hcase, hb1⟩; rcases hcase with ⟨rfl, hall⟩ | ⟨k, hk, rfl, hk0, hkall, hq⟩)
  · go_ret
    exact HAll.out _ hb1 hall
  · obtain ⟨g, cap', hv, hgB, hglt, hnc, -⟩ := names_cell HN.out hk
    simp only [Value.slice.injEq] at hv
    obtain ⟨rfl, _, rfl⟩ := hv
    have hst := Kept.start hk hk0 hkall
    have HSt := hid hst
    clear hst hk0 hkall
    go_loopw [5, 6] (DelRel w B g cap l) (fun _ j _ => l.length - (intOf j).toNat)
    case atStart => exact ⟨k, k + 1, l, rfl, by go_num, by omega, HSt.out, names_same HN.out (hb1.block g hglt), Chg.of_below hb1⟩
    case round =>
      obtain ⟨i, j, C, rfl, rfl, hj, hK, hNr, hc⟩ := hrel
      have hij := hK.lt
      have hCl := hK.len
      have hgr := (names_lt hNr).2
      have hgB0 : ∀ b, b = g → B0 ≤ b := fun b e => by omega
      by_cases hlt : j < l.length
      · obtain ⟨hcj, hCj⟩ := hK.get hlt
        have cj := names_at hNr hcj
        rw [hCj] at cj
        have hP := notSeg_any (mk l[j]) wr (HG.out.chg hc (by omega) hgB0) (by have := hc.size; omega) (by rw [mk_size]; exact HS.out _ (List.getElem_mem hlt))
        rw [mk_data] at hP
        have hjI : (j : Int) < (l.length : Int) := by omega
        have hiI : (i : Int) < (j : Int) := by omega
        have hci : i < C.length := by omega
        have hx : ∀ wx, Below wr.heap.size wr wx → wx.cell? ⟨g, i, none⟩ = some (.string (mk C[i])) ∧ wx.frozen? ⟨g, i, none⟩ = false ∧ NamesAt wx B (.slice (some ⟨g, 0, none⟩) l.length cap) C ∧ Chg (fun b => b = g) w wx := fun wx hb =>
          ⟨names_at (names_same hNr (hb.block g hgr)) hci, names_frozen (names_same hNr (hb.block g hgr)) i, names_same hNr (hb.block g hgr), hc.trans (T := fun _ => False) (Chg.of_below hb) (fun _ e => e.elim)⟩
        have HX := hid hx
        have HK := hid hK
        clear hx hK hNr hc hCj
        by_cases hz : segV l[j] = 0
        · rw [show decide (segV l[j] = 0) = true by simpa using hz] at hP
          have HP := hid hP
          have hfin : ∀ wx, Below wr.heap.size wr wx → DelRel w B g cap l (.int .i64 (i : Nat)) (.int .i64 ((j + 1 : Nat) : Int)) wx := fun wx hb => ⟨i, j + 1, C, rfl, rfl, hlt, HK.out.skip hlt (by simp [isSeg, hz]), (HX.out wx hb).2.2.1, (HX.out wx hb).2.2.2⟩
          have HF := hid hfin
          clear hP hz hfin
          generalize mk l[j] = nb at *
          go_wp2_with (go_at_call 67; (with_reducible refine HP.out.mono ?_); rintro e w2 ⟨rfl, hb2⟩)
          go_roundw
          case rel => exact HF.out _ hb2
          case measure => simp [intOf]; omega
        · rw [show decide (segV l[j] = 0) = false by simpa using hz] at hP
          have HP := hid hP
          have hfin : ∀ wx, Below wr.heap.size wr wx → DelRel w B g cap l (.int .i64 ((i + 1 : Nat) : Int)) (.int .i64 ((j + 1 : Nat) : Int)) (wx.setCell ⟨g, i, none⟩ (.string (mk l[j]))) := fun wx hb =>
            ⟨i + 1, j + 1, C.set i l[j], rfl, rfl, hlt, HK.out.keep hlt (by simp [isSeg, hz]), names_set (HX.out wx hb).2.2.1 hci _, (HX.out wx hb).2.2.2.trans (Chg.setCell wx ⟨g, i, none⟩ _) (fun b e => .inl e)⟩
          have HF := hid hfin
          clear hP hz hfin
          generalize mk l[j] = nb at *
          generalize mk C[i] = ob at *
          go_wp2_with (go_at_call 67; (with_reducible refine HP.out.mono ?_); rintro e w2 ⟨rfl, hb2⟩; obtain ⟨x0, x1, -, -⟩ := HX.out _ hb2)
          go_roundw
          case rel => exact HF.out _ hb2
          case measure => simp [intOf]; omega
      · obtain rfl : j = l.length := by omega
        have hdone := hK.done
        obtain ⟨C', h2, h3, h4⟩ := names_cells (l.length - i) i wr C hNr (by omega)
        have hn := names_cut h2 (i := i) (by omega)
        rw [h3, hdone] at hn
        have hcl : ∀ ty, (Builtin.clear_ #[48] ty #[.slice (some ⟨g, i, none⟩) (l.length - i) (cap - i)]).run Tryz.prog wr = .ok (.tuple #[]) (wr.setCells g i (List.replicate (l.length - i) (.string ⟨#[]⟩))) :=
          fun ty => Lib.run_clear_slice wr _ _ ty _ Tryz.underlying48 Tryz.zeroValue9 rfl rfl g i _ _ (by omega) (fun t ht => by rw [names_at hNr (i := i + t) (by omega)]; rfl) (fun t ht => names_frozen hNr _)
        have hfin : DelPost w B (.slice (some ⟨g, 0, none⟩) l.length cap) (l.filter isSeg) (.returned (.slice (some ⟨g, 0, none⟩) i cap)) (wr.setCells g i (List.replicate (l.length - i) (.string ⟨#[]⟩))) :=
          ⟨_, rfl, hn, (hc.trans h4 (fun b e => .inl e)).mono (fun b e => by rw [e]; rfl), fun b hb => hb⟩
        have HF := hid hfin
        have hiI : (i : Int) < (l.length : Int) := by omega
        have hcapI : (l.length : Int) ≤ (cap : Int) := by omega
        clear hfin hn h2 h3 h4 hdone hK hNr hc
        go_wp2
        go_ret
        exact HF.out
end Go.Proofs.YtpakolpmhmhkpaaGreatDoor.Sn

