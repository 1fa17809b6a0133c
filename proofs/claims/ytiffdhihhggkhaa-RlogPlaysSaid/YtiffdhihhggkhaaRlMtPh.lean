/-
  LAYER 8 (rlog), THE DOCUMENT's LOG: how far Match has come, as lists.
-/
import Derived.Test.YtiffdhihhggkhaaRlRef8
import Derived.Test.YtiffdhihhggkhaaRlPut3
import Derived.Test.YtiffdhihhggkhaaRlRef9
namespace Go.Proofs.Ytiffdhihhggkhaa
open Go.RowKit
set_option linter.unusedVariables false
set_option maxRecDepth 100000

theorem Rl.eta (s : Rl) : ({ s with ents := s.ents } : Rl) = s := rfl
/-- Match at its k-th round: nothing was put yet, or from the k0-th entry on. -/
def MtPh (s : Rl) (index fixed : Int) (l : List Me) (k : Nat) (first : Int) (B : List Me) : Prop :=
  (first = 0 ∧ B = s.ents ∧ diffAt s fixed index l = (diffAt s fixed (index + k) (l.drop k)).map (· + k)) ∨
  ∃ k0 : Nat, k0 < k ∧ diffAt s fixed index l = some k0 ∧ first = index + 1 + k0 ∧ B = s.ents.take (index + k0 - s.bi).toNat ++ (reidx (index + k0) (l.drop k0)).take (k - k0)
/-- What holds of a call that matches. -/
structure MtOk (s : Rl) (index term fixed : Int) (l : List Me) : Prop where
  b : RlB s
  res : RlB (matchL s index term fixed l).2
  le : index ≤ s.last
  there : ¬ (fixed < index ∧ termL s index ≠ some term)
  fb : s.bi ≤ fixed
  fl : fixed ≤ s.last
section
variable {s : Rl} {index term fixed : Int} {l : List Me} {k : Nat} {first : Int} {B : List Me} {x : Me}
theorem drop_at (hx : l[k]? = some x) : l.drop k = x :: l.drop (k + 1) := by
  have hk : k < l.length := (List.getElem?_eq_some_iff.1 hx).1
  rw [List.drop_eq_getElem_cons hk]
  congr 1
  exact Option.some.inj ((List.getElem?_eq_getElem hk).symm.trans hx)
theorem MtPh.start : MtPh s index fixed l 0 0 s.ents := .inl ⟨rfl, rfl, by simp⟩
theorem MtPh.first0 (h : MtPh s index fixed l k first B) (ho : MtOk s index term fixed l) (h0 : first = 0) : B = s.ents ∧ diffAt s fixed index l = (diffAt s fixed (index + k) (l.drop k)).map (· + k) := by
  rcases h with ⟨_, h1, h2⟩ | ⟨k0, h1, h2, h3, h4⟩
  · exact ⟨h1, h2⟩
  · have := (diffAt_where h2 ho.le ho.fb ho.fl).1
    have := ho.fb
    have := ho.b.ok.pos
    omega
theorem MtPh.behind (h : MtPh s index fixed l k first B) (ho : MtOk s index term fixed l) (h0 : first ≠ 0) : fixed < index + 1 + k ∧ s.bi < first ∧ first ≤ index + k := by
  rcases h with ⟨h1, _, _⟩ | ⟨k0, h1, h2, h3, h4⟩
  · exact absurd h1 h0
  · have := (diffAt_where h2 ho.le ho.fb ho.fl).1
    have := ho.fb
    omega
theorem MtPh.skip (h : MtPh s index fixed l k 0 B) (ho : MtOk s index term fixed l) (hx : l[k]? = some x) (hh : hasE s fixed (index + 1 + k) x.term = true) : MtPh s index fixed l (k + 1) 0 B := by
  obtain ⟨h1, h2⟩ := h.first0 ho rfl
  refine .inl ⟨rfl, h1, ?_⟩
  rw [h2, drop_at hx, show diffAt s fixed (index + (k : Int)) (x :: l.drop (k + 1)) = if hasE s fixed (index + k + 1) x.term = true then (diffAt s fixed (index + k + 1) (l.drop (k + 1))).map (· + 1) else some 0 from rfl, show index + (k : Int) + 1 = index + 1 + k by omega, if_pos hh, Option.map_map, show index + ((k + 1 : Nat) : Int) = index + 1 + k by push_cast; omega]
  congr 1
  funext y
  simp only [Function.comp]
  omega
theorem MtPh.new (h : MtPh s index fixed l k 0 B) (ho : MtOk s index term fixed l) (hx : l[k]? = some x) (hh : hasE s fixed (index + 1 + k) x.term = false) : diffAt s fixed index l = some k ∧ s.bi < index + 1 + k ∧ index + k ≤ s.last ∧ MtPh s index fixed l (k + 1) (index + 1 + k) (s.ents.take (index + k - s.bi).toNat ++ [{ x with idx := index + 1 + k }]) := by
  obtain ⟨h1, h2⟩ := h.first0 ho rfl
  have h3 : diffAt s fixed index l = some k := by
    rw [h2, drop_at hx, show diffAt s fixed (index + (k : Int)) (x :: l.drop (k + 1)) = if hasE s fixed (index + k + 1) x.term = true then (diffAt s fixed (index + k + 1) (l.drop (k + 1))).map (· + 1) else some 0 from rfl, show index + (k : Int) + 1 = index + 1 + k by omega, if_neg (by rw [hh]; simp)]
    simp
  obtain ⟨h4, h5⟩ := diffAt_where h3 ho.le ho.fb ho.fl
  have := ho.fb
  refine ⟨h3, by omega, h5, .inr ⟨k, Nat.lt_succ_self k, h3, rfl, ?_⟩⟩
  rw [drop_at hx, show k + 1 - k = 1 by omega]
  show _ = s.ents.take _ ++ [({ x with idx := index + k + 1 } : Me)]
  rw [show index + (k : Int) + 1 = index + 1 + k by omega]
theorem MtPh.more (h : MtPh s index fixed l k first B) (h0 : first ≠ 0) (hx : l[k]? = some x) : MtPh s index fixed l (k + 1) first (B ++ [{ x with idx := index + 1 + k }]) := by
  rcases h with ⟨h1, _, _⟩ | ⟨k0, h1, h2, h3, h4⟩
  · exact absurd h1 h0
  · refine .inr ⟨k0, by omega, h2, h3, ?_⟩
    rw [h4, List.append_assoc]
    congr 1
    rw [show k + 1 - k0 = (k - k0) + 1 by omega, List.take_add_one, reidx_get, List.getElem?_drop, show k0 + (k - k0) = k by omega, hx]
    simp only [Option.map_some, Option.toList]
    congr 3
    omega
/-- At the end. -/
theorem MtPh.end_ (h : MtPh s index fixed l l.length first B) (ho : MtOk s index term fixed l) : matchL s index term fixed l = ((index + l.length, first, true), { s with ents := B }) := by
  have h1 := ho.le
  unfold matchL
  rw [if_neg (by omega), if_neg ho.there]
  rcases h with ⟨h1, h2, h3⟩ | ⟨k0, h1, h2, h3, h4⟩
  · rw [List.drop_length] at h3
    rw [h3, h1, h2]
    rfl
  · rw [h2, h3, h4]
    congr 3
    rw [List.take_of_length_le (l := reidx (index + (k0 : Int)) (l.drop k0)) (by rw [reidx_len, List.length_drop]; omega)]
/-- The log is never too long. -/
theorem MtPh.rlB (h : MtPh s index fixed l k first B) (ho : MtOk s index term fixed l) : RlB { s with ents := B } := by
  rcases h with ⟨h1, h2, h3⟩ | ⟨k0, h1, h2, h3, h4⟩
  · rw [h2]; exact ho.b
  · have h5 := ho.res
    have h6 := ho.le
    unfold matchL at h5
    rw [if_neg (by omega), if_neg ho.there, h2] at h5
    have h7 : s.ents.take (index + (k0 : Int) - s.bi).toNat ++ reidx (index + k0) (l.drop k0) = B ++ (reidx (index + k0) (l.drop k0)).drop (k - k0) := by
      rw [h4, List.append_assoc, List.take_append_drop]
    have h8 : RlB ⟨s.bi, s.bt, s.vot, s.bd, B ++ (reidx (index + k0) (l.drop k0)).drop (k - k0)⟩ := by
      rw [← h7]; exact h5
    exact rlB_part h8
theorem rlB_take (h : RlB s) (m : Nat) : RlB { s with ents := s.ents.take m } :=
  rlB_part (C := s.ents.drop m) (by rw [List.take_append_drop]; exact h)
end
theorem turn_trans {R : RlRep} {w w1 w2 : World} {F F1 : Nat → Prop} {r : Nat} {s : Rl} (hc : Chg F w w1) (hF : ∀ b, F1 b → F b ∨ w.heap.size ≤ b) (h : Turn R F1 w1 w2 r s) : Turn R F w w2 r s := by
  obtain ⟨F2, hi, hc2, hF2⟩ := h
  refine ⟨F2, hi, hc.trans hc2 hF, fun b e => ?_⟩
  rcases hF2 b e with k | k
  · exact hF b k
  · exact .inr (Nat.le_trans hc.size k)
/-- The log cut behind its first m entries. -/
theorem rf_cut {W : World} {F : Nat → Prop} {r : Nat} {s : Rl} (h : rfRep.Is W F r s) {m : Nat} (hm : m ≤ s.ents.length) : ∃ la lc, W.cell? ⟨r, 4, none⟩ = some (.slice la s.ents.length lc) ∧ W.cell? ⟨r, 0, none⟩ = some (.int .i64 s.bi) ∧ W.frozen? ⟨r, 4, none⟩ = false ∧ (∀ wx, (Instr.slice 26 (.slice la s.ents.length lc) none (some (.int .i64 (m : Int))) none).run Try.prog wx = .ok (.slice la m lc) wx) ∧ Hid (rfRep.Is (W.setCell ⟨r, 4, none⟩ (.slice la m lc)) F r { s with ents := s.ents.take m }) ∧ Hid (Chg F W (W.setCell ⟨r, 4, none⟩ (.slice la m lc))) := by
  obtain ⟨va, vc, la, lc, hI, hc⟩ := rf_c h
  obtain ⟨c0, c1, c2, c3, c4⟩ := hc W (Below.refl _ _)
  have hI2 := hI
  obtain ⟨a', cap', e, h1, h2, h3, h4⟩ := id hI.ents
  cases e
  have hch : Chg (fun b => b = r) W (W.setCell ⟨r, 4, none⟩ (.slice la m lc)) := Chg.setCell W ⟨r, 4, none⟩ _
  have ho : (Value.slice la m lc).ownBlock = (Value.slice la s.ents.length lc).ownBlock := by cases la <;> rfl
  refine ⟨la, lc, c4, c0, hI.box.frozen 4, fun wx => run_to enTy_ok wx la _ lc m (Nat.le_trans hm h1) h2, hid ⟨.slice va s.vot.length vc, .slice la m lc, hI.box.set 4 (.slice la m lc), hI.vot.same (fun b e hb => hch.block b hb (fun e2 => hI.nv (by rw [e, e2]))) hch.size, (hI.ents.take enTy_ok hm).same (fun b e hb => hch.block b hb (fun e2 => hI.nl (by rw [← ho, ← e2]; exact e))) hch.size, hI.fr, hI.fv, fun b e => hI.fl b (by rw [← ho]; exact e), fun b e => Nat.lt_of_lt_of_le (hI.lt b e) hch.size, hI.nv, fun e => hI.nl (by rw [← ho]; exact e)⟩, hid (hch.mono (fun b e => by rw [e]; exact hI.fr))⟩
end Go.Proofs.Ytiffdhihhggkhaa
