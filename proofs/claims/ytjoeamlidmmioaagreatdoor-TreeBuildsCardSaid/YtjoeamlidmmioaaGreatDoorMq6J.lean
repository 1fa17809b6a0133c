import Derived.Test.YtjoeamlidmmioaaGreatDoorTrRcJ
import Derived.Test.YtjoeamlidmmioaaGreatDoorXmR2J
/-
  LAYER 12 (tree), THE DOCUMENT's: blanks.
-/
namespace Go.Proofs.YtjoeamlidmmioaaGreatDoor
open Go.RowKit
set_option linter.unusedVariables false
set_option maxRecDepth 100000

set_option maxHeartbeats 4000000 in
theorem blank12_any (c : UInt8) (w : World) : Calls Tryz.prog 23 #[.int .u8 (c.toNat : Nat)] w fun e w' => e = .returned (.bool (spcX c)) ∧ w = w' := by
  rw [spcX_nat]
  have hc : c.toNat < 256 := c.toNat_lt
  generalize c.toNat = n at *
  go_enter Tryz.func23, Tryz.ntmps23
  go_wp2
  all_goals (go_ret; exact ⟨ret_bool (by rw [Bool.eq_iff_iff]; simp; try omega), rfl⟩)
set_option maxHeartbeats 4000000 in
theorem blanks12_any (a : List UInt8) (ha : a.length ≤ 1000000) (w : World) :
    Calls Tryz.prog 13 #[.string (mk a)] w fun e w' => e = .returned (.bool (a.all spcX)) ∧ w = w' := by
  have hms : (mk a).size = a.length := mk_size a
  go_enter Tryz.func13, Tryz.ntmps13
  go_wp2
  go_loopw [3] (fun i wr => ∃ j : Nat, j ≤ a.length ∧ i = .int .i64 j ∧ w = wr ∧ Hid ((a.take j).all spcX = true)) (fun i _ => a.length - (intOf i).toNat)
  case atStart => exact ⟨0, by omega, rfl, (by first | trivial | rfl), hid rfl⟩
  case round =>
    obtain ⟨j, hj, rfl, rfl, hA⟩ := hrel
    by_cases hlt : j < a.length
    · have hc : a[j]? = some a[j] := by simp [hlt]
      generalize a[j] = c at hc
      have h1 : ((j : Int) < ((mk a).size : Int)) := by omega
      have x1 := fun wx => ix_at hc (q := (j : Int)) rfl wx
      have HB := hid (blank12_any c)
      cases hs : spcX c with
      | true =>
        rw [hs] at HB
        have HA2 : Hid ((a.take (j + 1)).all spcX = true) := hid (by rw [List.take_add_one, hc, List.all_append, hA.out]; simp [hs])
        clear hA hc hs
        go_wp2_with (go_at_call 23; (with_reducible refine (HB.out _).mono ?_); rintro e w1 ⟨rfl, rfl⟩)
        go_roundw
        case rel => exact ⟨j + 1, by omega, by go_num, (by first | trivial | rfl), HA2⟩
        case measure => simp [intOf]; omega
      | false =>
        rw [hs] at HB
        have HR : Hid (a.all spcX = false) := hid (by
          rw [List.all_eq_false]
          exact ⟨c, List.mem_of_getElem? hc, by rw [hs]; simp⟩)
        clear hA hc hs
        go_wp2_with (go_at_call 23; (with_reducible refine (HB.out _).mono ?_); rintro e w1 ⟨rfl, rfl⟩)
        go_ret
        exact ⟨by rw [HR.out]; rfl, rfl⟩
    · obtain rfl : j = a.length := by omega
      have h1 : ¬ (((a.length : Nat) : Int) < ((mk a).size : Int)) := by omega
      have HR : Hid (a.all spcX = true) := hid (by have := hA.out; rw [List.take_of_length_le (Nat.le_refl _)] at this; exact this)
      clear hA
      go_wp2
      go_ret
      exact ⟨by rw [HR.out]; rfl, rfl⟩
/-- The result's box, zeroed again. -/
theorem rb_zero {B : Nat} {W wr : World} {s : BdX} {ao : Option Addr} {n cap : Nat} {V : List NdV} {rx x : NdV} (h : RbIs B W wr s ao n cap V rx) :
    own ((((wr.setCell ⟨B, 0, none⟩ (.string (mk x.n))).setCell ⟨B, 1, none⟩ (.slice x.a x.am x.ac)).setCell ⟨B, 2, none⟩ (.string (mk x.t))).setCell ⟨B, 3, none⟩ (.slice x.k x.km x.kc)) B (ndCs x).toArray 37 ∧ Below B W ((((wr.setCell ⟨B, 0, none⟩ (.string (mk x.n))).setCell ⟨B, 1, none⟩ (.slice x.a x.am x.ac)).setCell ⟨B, 2, none⟩ (.string (mk x.t))).setCell ⟨B, 3, none⟩ (.slice x.k x.km x.kc)) := by
  have ho := (((h.res.set 0 (.string (mk x.n))).set 1 (.slice x.a x.am x.ac)).set 2 (.string (mk x.t))).set 3 (.slice x.k x.km x.kc)
  exact ⟨by simpa [ndCs] using ho, (((h.below.setCell (p := ⟨B, 0, none⟩) (Nat.le_refl _) _).setCell (p := ⟨B, 1, none⟩) (Nat.le_refl _) _).setCell (p := ⟨B, 2, none⟩) (Nat.le_refl _) _).setCell (p := ⟨B, 3, none⟩) (Nat.le_refl _) _⟩
end Go.Proofs.YtjoeamlidmmioaaGreatDoor

/-
  LAYER 12 (tree), THE DOCUMENT's: Build's ends, and its steps.
-/
namespace Go.Proofs.YtjoeamlidmmioaaGreatDoor
open Go.RowKit
set_option linter.unusedVariables false
set_option maxRecDepth 100000

theorem rb_done {W wr : World} {s : BdX} {ao : Option Addr} {n cap : Nat} {V : List NdV} {rx x : NdV} (h : RbIs W.heap.size W wr s ao n cap V rx) {u : Tr} (hN : NdIn raTy rdTy wr (RbF W W.heap.size wr (.slice ao n cap)) x u) {L : List TkX} {er : Int} (he : (u, er) = buildX L) :
    own ((((wr.setCell ⟨W.heap.size, 0, none⟩ (.string (mk x.n))).setCell ⟨W.heap.size, 1, none⟩ (.slice x.a x.am x.ac)).setCell ⟨W.heap.size, 2, none⟩ (.string (mk x.t))).setCell ⟨W.heap.size, 3, none⟩ (.slice x.k x.km x.kc)) W.heap.size (ndCs x).toArray 37 ∧
    RbPost W (buildX L) (.returned (.tuple #[.agg #[.string (mk x.n), .slice x.a x.am x.ac, .string (mk x.t), .slice x.k x.km x.kc], .int .i64 er])) ((((wr.setCell ⟨W.heap.size, 0, none⟩ (.string (mk x.n))).setCell ⟨W.heap.size, 1, none⟩ (.slice x.a x.am x.ac)).setCell ⟨W.heap.size, 2, none⟩ (.string (mk x.t))).setCell ⟨W.heap.size, 3, none⟩ (.slice x.k x.km x.kc)) := by
  obtain ⟨q1, q2⟩ := rb_zero (x := x) h
  refine ⟨q1, x, by rw [← he], ?_, q2⟩
  rw [← he]
  refine ndIn_same hN (fun g hg _ => ?_) (fun g hg hl => by rcases hg.2.1 with q | q; exact q.2; omega) (by simp only [setCell_size]; exact Nat.le_refl _)
  have hne : g ≠ W.heap.size := by have := hg.2.1; omega
  rw [Below.heap_setCell _ _ _ _ hne, Below.heap_setCell _ _ _ _ hne, Below.heap_setCell _ _ _ _ hne, Below.heap_setCell _ _ _ _ hne]
theorem rb_bad {L r : List TkX} {s s' : BdX} {t : TkX} {er : Int} (hF : foldX bdX0 L = foldX s (t :: r)) (hT : takeX s t = (er, s')) (he : er ≠ 0) : (tr0, er) = buildX L := by
  unfold buildX
  rw [hF, foldX_bad hT he, if_neg he]
/-- An element is opened. -/
theorem rb_begin {B : Nat} {W wr : World} {s : BdX} {ao : Option Addr} {n cap : Nat} {V : List NdV} {rx : NdV} (h : RbIs B W wr s ao n cap V rx) {t : TkX} {aa : Option Addr} {ac : Nat} (ha : RAt raTy wr (.slice aa t.as.length ac) t.as) (hal : t.as ≠ [] → ∀ g, (Value.slice aa t.as.length ac).ownBlock = some g → g < B ∧ Two W g)
    {a2 : Option Addr} {n2 c2 : Nat} {w2 : World} (hm : RMid rdTy wr w2 (.slice a2 n2 c2) (V ++ [⟨t.n, aa, t.as.length, ac, [], none, 0, 0⟩])) (hn2 : n2 = V.length + 1) :
    RbIs B W w2 ⟨⟨t.n, t.as, [], []⟩ :: s.op, s.root⟩ a2 n2 c2 (V ++ [⟨t.n, aa, t.as.length, ac, [], none, 0, 0⟩]) rx :=
  rb_push h hm hn2 (.at _ _ [] rfl rfl (ha.below hm.below) (fun hne g hg => ⟨by have := (hal hne g hg).1; have := h.done.lt; have := hm.below.size; omega, .inl (hal hne g hg), fun q => by cases q⟩) (rAt_nil _) (fun h => absurd rfl h) rfl (fun i y u hy => by simp at hy))
/-- A text is put to the last open element. -/
theorem rb_text {B : Nat} {W wr : World} {s : BdX} {ao : Option Addr} {n cap : Nat} {V : List NdV} {rx : NdV} (h : RbIs B W wr s ao n cap V rx) {e : OpX} {st : List OpX} (hs : s.op = e :: st) (tt : List UInt8) :
    ∃ g y, ao = some ⟨g, 0, none⟩ ∧ V[st.length]? = some y ∧ wr.cell? ⟨g, st.length * 4 + 2, none⟩ = some (.string (mk e.ws.flatten)) ∧ wr.frozen? ⟨g, st.length * 4 + 2, none⟩ = false ∧ RbIs B W (wr.setCell ⟨g, st.length * 4 + 2, none⟩ (.string (mk (e.ws.flatten ++ tt)))) ⟨{ e with ws := e.ws ++ [tt] } :: st, s.root⟩ ao n cap (V.set st.length { y with t := e.ws.flatten ++ tt }) rx := by
  obtain ⟨y, hy, hd⟩ := rb_last h hs
  obtain ⟨a, ac, k, kc, hye, ra, hfa, ⟨K, rk, hKl, hfk, hKs⟩, _⟩ := nd_open raTy_ok rdTy_ok rfl rfl hd
  obtain ⟨g, hao, hc, hf, hR⟩ := rb_put (op' := { e with ws := e.ws ++ [tt] } :: st) (y' := { y with t := e.ws.flatten ++ tt }) (j := 2) (u := .string (mk (e.ws.flatten ++ tt))) h hy (by decide) rfl (by rw [hs]; rfl) (fun i e' hi he => by
    rw [hs]
    rw [List.reverse_cons] at he ⊢
    rcases Nat.lt_or_ge i st.length with q | q
    · rw [List.getElem?_append_left (by simp; exact q)] at he ⊢
      exact he
    · have := (List.getElem?_eq_some_iff.1 he).1
      simp at this
      omega) (fun e' he => by
    rw [List.reverse_cons] at he
    simp at he
    subst he
    exact .at _ _ K (by rw [hye]; rfl) (by simp [shutX, trT]) (by rw [hye]; exact ra) (by rw [hye]; exact hfa) (by rw [hye]; exact rk) (by rw [hye]; exact hfk) hKl hKs)
  exact ⟨g, y, hao, hy, by rw [hc, hye]; rfl, hf, hR⟩
end Go.Proofs.YtjoeamlidmmioaaGreatDoor

